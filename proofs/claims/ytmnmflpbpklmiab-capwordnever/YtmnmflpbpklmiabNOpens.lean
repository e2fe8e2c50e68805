/-
  Stage 1, capword: what the statement's helper opens does.
-/
import Derived.Test.YtmnmflpbpklmiabNAuth
namespace Go.Proofs.Ytmnmflpbpklmiab
open Go.RowKit

theorem flat_news {w : World} {base g cap : Nat} {L : List Kap} (h : LAt w base g cap L) : ∀ j u, (flat L)[j]? = some u → w.cell? ((⟨g, 0, none⟩ : Addr).add j) = some u := fun j u hj => World.ownsRow.cells h (g := g) rfl j u hj
theorem flat_one (L : List Kap) : ∀ u ∈ flat L, u.oneCell' = true := by
  intro u hu
  obtain ⟨k, _, hk⟩ := List.mem_flatMap.mp hu
  exact vals_one k u hk
theorem LAt.grown {w w1 : World} {base g g1 cap : Nat} {L : List Kap} (h : LAt w base g cap L) (hg : w.grownBy w1 (some g1)) (hne : g ≠ g1) : LAt w1 base g cap L :=
  World.ownsRow.kept h hg (.inr (by simp [Value.ownBlock]; exact hne))
theorem LAt.grown_none {w w1 : World} {base g cap : Nat} {L : List Kap} (h : LAt w base g cap L) (hg : w.grownBy w1 none) : LAt w1 base g cap L :=
  World.ownsRow.kept h hg (.inr (by simp [Value.ownBlock]))

theorem wpList_append_all {ops : Array Oper} {rest : List Oper} {o : Oper} {a : Act} {Q : Exit → Act → World → Prop} {w : World} (hgd : o.guard = none) (s x : Operand)
    (ho : o.op = .call { callee := .builtin .append, args := #[s, x], argTypes := #[42, 42] })
    (base b0 g cap : Nat) (L : List Kap) (hs : a.eval s = .slice none 0 0) (hx : a.eval x = .slice (some ⟨g, 0, none⟩) L.length cap) (hL : LAt w b0 g cap L) (h0 : 0 < L.length) (hlen : L.length ≤ 1000) (hbase : base ≤ w.heap.size)
    (h : ∀ g' cap' w', LAt w' base g' cap' L → w.grownBy w' none → wpList Try.prog ops Q rest (a.put o.dst (.slice (some ⟨g', 0, none⟩) L.length cap')) w') :
    wpList Try.prog ops Q (o :: rest) a w := by
  obtain ⟨i0, hi, hz0, hz1, hz2⟩ := info_parts infoCap
  refine wpList_append_lies _ hgd s x 42 ho base 25 i0 (.agg #[.int .u64 0, .int .u64 0, .int .u64 0, .int .u8 0, .int .i64 0]) 5 40 Try.underlying42 hi hz0 hz1 hz2 rfl (by decide)
    (.slice none 0 0) 0 [] hs (World.ownsRow_nil _ _ _ _) ⟨g, 0, none⟩ L.length cap (flat L) hx (flat_length L) (flat_news hL) (flat_one L) h0 (by simp [maxLen]; omega) (by omega) hbase _ rfl ?_
  intro g' cap' w' h1 h2 h3 _
  simp only [Nat.zero_add, List.nil_append] at h1 ⊢
  exact h g' cap' w' h1 h2

theorem outAt_step (L : List Kap) (r j : Nat) (hj : j < L.length) {kk : Kap} (hk : L[j] = kk) : outAt L (r * L.length + j + 1) = stepL (outAt L (r * L.length + j)) kk := by
  have hm : (r * L.length + j) % L.length = j := by rw [Nat.mul_comm, Nat.mul_add_mod, Nat.mod_eq_of_lt hj]
  have hg : L.getD j ⟨0, 0, 0, 0, 0⟩ = kk := by rw [List.getD_eq_getElem?_getD, List.getElem?_eq_getElem hj, hk]; simp
  simp only [outAt, hm, hg]
theorem step_yes {O : List Kap} {kk : Kap} (h0 : 0 < kk.s) (ha : authB O kk.s 64 = true) : stepL O kk = O ++ [opn kk] := by unfold stepL; rw [if_pos ⟨h0, ha⟩]
theorem step_no {O : List Kap} {kk : Kap} (h : ¬ (0 < kk.s ∧ authB O kk.s 64 = true)) : stepL O kk = O := by unfold stepL; rw [if_neg h]
theorem out_small (L : List Kap) (r j : Nat) (hl : L.length ≤ 6) (hr : r < L.length) (hj : j ≤ L.length) : (outAt L (r * L.length + j)).length ≤ 100 := by
  have h1 := outAt_length L (r * L.length + j)
  have h2 : (r + 1) * L.length ≤ 6 * 6 := Nat.mul_le_mul (by omega) hl
  rw [Nat.add_mul] at h2
  omega

set_option maxRecDepth 100000 in
set_option maxHeartbeats 2000000 in
theorem opens_any (base g cp : Nat) (L : List Kap) (w : World) (hL : LAt w base g cp L) (h0 : 1 ≤ L.length) (hl : L.length ≤ 6) (hR : ∀ k ∈ L, Rk k) :
    Calls Try.prog 22 #[.slice (some ⟨g, 0, none⟩) L.length cp] w fun x w' =>
      ∃ g' cp', x = .returned (.slice (some ⟨g', 0, none⟩) (outAt L (L.length * L.length)).length cp') ∧ LAt w' w.heap.size g' cp' (outAt L (L.length * L.length)) ∧ Below w.heap.size w w' := by
  have hgN := hL.lt.2
  go_enter Try.func22, Try.ntmps22
  go_wp2_with (at_builtin; refine wpList_append_all rfl (.tmp 8) (.tmp 9) rfl w.heap.size base g cp L rfl rfl hL (by omega) (by omega) (Nat.le_refl _) ?_)
  intro g1 cp1 w1 hO hgr
  have hB : Below w.heap.size w w1 := Below.grown (Below.refl _ _) hgr (Nat.le_refl _) (fun k hk => by cases hk)
  replace hL := hL.grown_none hgr
  clear hgr
  go_wp2_with fail
  go_loopw [3, 4] (fun v r wr => ∃ (rr g1 cp1 : Nat) (O : List Kap), rr ≤ L.length ∧ r = .int .i64 rr ∧ v = .slice (some ⟨g1, 0, none⟩) O.length cp1 ∧ Hid (O = outAt L (rr * L.length)) ∧ LAt wr w.heap.size g1 cp1 O ∧ LAt wr base g cp L ∧ Below w.heap.size w wr) (fun _ r _ => L.length - (intOf r).toNat)
  case atStart => exact ⟨0, g1, cp1, L, by omega, rfl, rfl, by simp [Hid, outAt], hO, hL, hB⟩
  case round =>
    clear hO hL hB
    obtain ⟨rr, g2, cp2, O, hrr, rfl, rfl, HO, hO, hL, hB⟩ := hrel
    by_cases hlt : rr < L.length
    · go_wp2_with fail
      go_loopw [3, 5] (fun v i wr => ∃ (j g1 cp1 : Nat) (O : List Kap), j ≤ L.length ∧ i = .int .i64 j ∧ v = .slice (some ⟨g1, 0, none⟩) O.length cp1 ∧ Hid (O = outAt L (rr * L.length + j)) ∧ LAt wr w.heap.size g1 cp1 O ∧ LAt wr base g cp L ∧ Below w.heap.size w wr) (fun _ i _ => L.length - (intOf i).toNat)
      case atStart => exact ⟨0, g2, cp2, O, by omega, rfl, rfl, HO, hO, hL, hB⟩
      case round =>
        clear hO hL hB HO
        obtain ⟨j, g3, cp3, O, hj, rfl, rfl, HO, hO, hL, hB⟩ := hrel
        have hOs : O.length ≤ 100 := by rw [HO.out]; exact out_small L rr j hl hlt hj
        have hg3 := hO.lt
        by_cases hjl : j < L.length
        · obtain ⟨kk, hkk⟩ : ∃ kk, L[j] = kk := ⟨_, rfl⟩
          obtain ⟨y0, y1, y2, y3, y4⟩ := hL.five j hjl hkk
          have hks := (hR kk (hkk ▸ List.getElem_mem hjl)).2.2.2
          have HS : Hid (outAt L (rr * L.length + j + 1) = stepL O kk) := by have := outAt_step L rr j hjl hkk; rw [← HO.out] at this; exact this
          clear hkk
          have hBs := hB.size
          go_wp2_with fail
          refine (auth_any w.heap.size g3 cp3 O _ _ _ hO (by omega) (by omega)).mono ?_
          rintro x w' ⟨rfl, rfl⟩
          by_cases h1 : 0 < kk.s
          · by_cases h2 : authB O kk.s 64 = true
            · go_wp2_with (at_builtin; refine wpList_append_kap rfl (.tmp 44) (.tmp 46) rfl w.heap.size g3 cp3 O (opn kk) O.length rfl rfl ((hO.alloc _).alloc _) (wr.heap.size + 1) rfl (by exact (size_one wr _ ▸ At.new (wr.alloc _) _ _ : At _ (wr.heap.size + 1) _)) (by omega) (by simp; omega) ?_)
              intro g4 cp4 w4 hO4 hgr hgg
              clear y0 y1 y2 y3 y4
              replace hL := ((hL.alloc _).alloc _).grown hgr (by omega)
              replace hB := Below.grown ((hB.alloc hB.size _).alloc (by simp; omega) _) hgr (by simp; omega) (by intro k hk; simp at hk; omega)
              clear hgr hgg hO
              go_wp2
              go_roundw
              case rel => exact ⟨j + 1, g4, cp4, O ++ [opn kk], by omega, by go_num, by simp, (HS.out.trans (step_yes h1 h2)).symm, hO4, hL, hB⟩
              case measure => simp [intOf]; omega
            · have h2' : authB O kk.s 64 = false := by simpa using h2
              go_wp2
              go_roundw
              case rel => exact ⟨j + 1, g3, cp3, O, by omega, by go_num, rfl, (HS.out.trans (step_no (fun h => h2 h.2))).symm, hO, hL, hB⟩
              case measure => simp [intOf]; omega
          · go_wp2
            go_roundw
            case rel => exact ⟨j + 1, g3, cp3, O, by omega, by go_num, rfl, (HS.out.trans (step_no (fun h => by have := h.1; omega))).symm, hO, hL, hB⟩
            case measure => simp [intOf]; omega
        · have he : j = L.length := by omega
          have HE : Hid (O = outAt L ((rr + 1) * L.length)) := by
            have := HO.out
            rw [he] at this
            rw [Nat.add_mul, Nat.one_mul]
            exact this
          clear he
          go_wp2
          exact ⟨⟨rr + 1, g3, cp3, O, by omega, by go_num, rfl, HE, hO, hL, hB⟩, by simp [intOf]; omega⟩
    · go_wp2
      go_ret
      have he : rr = L.length := by omega
      have := HO.out
      rw [he] at this
      subst this
      exact ⟨g2, cp2, rfl, hO, hB⟩
end Go.Proofs.Ytmnmflpbpklmiab
