import Derived.Test.YtoppcikacakjcaaP24
/-
  Stage 8, flow: the book's still; lists of numbers that are the same.
-/
namespace Go.Proofs.Ytoppcikacakjcaa
namespace F
open Go.RowKit
open T

structure Bok (w : World) (bB : Nat) (n : Int) (v1 v2 : Value) (T : List (Value × Int)) (c : Nat → Int) : Prop where
  box : At w bB #[.int .i64 n, v1, v2]
  row1 : w.ownsRow 0 23 1 v1 T.length (T.map (·.1))
  row2 : w.ownsRow 0 3 1 v2 T.length (T.map fun t => .int .i64 t.2)
  c1 : Cl c v1 (-1)
  c2 : Cl c v2 (-2)
  rd : ∀ t ∈ T, 0 < t.2 ∧ t.2 ≤ 5000000 ∧ Rd w c t.1 t.2
theorem row_cell {w : World} {base e n : Nat} {v : Value} {xs : List Value} (h : w.ownsRow base e 1 v n xs) (i : Nat) (hi : i < xs.length) : ∃ g cap, v = .slice (some ⟨g, 0, none⟩) n cap ∧ g < w.heap.size ∧ w.cell? ⟨g, i, none⟩ = some xs[i] := by
  have hn : xs.length = n := by have := h.1; omega
  obtain ⟨g, cap, rfl, _, hlt⟩ := h.form (by omega)
  refine ⟨g, cap, rfl, hlt, ?_⟩
  have := World.ownsRow.cells h (g := g) rfl i xs[i] (List.getElem?_eq_getElem hi)
  rwa [addr_add, Nat.zero_add] at this
theorem row_slice {w : World} {base e n : Nat} {v : Value} {xs : List Value} (h : w.ownsRow base e 1 v n xs) : ∃ a cap, v = .slice a n cap := by
  rcases h.2 with ⟨rfl, rfl⟩ | ⟨g, cap, cur, rfl, _⟩
  · exact ⟨_, _, rfl⟩
  · exact ⟨_, _, rfl⟩
set_option maxRecDepth 100000 in
set_option maxHeartbeats 4000000 in
theorem still_any (w : World) (bB : Nat) (n : Int) (v1 v2 : Value) (T : List (Value × Int)) (c : Nat → Int) (h : Bok w bB n v1 v2 T c) (hT : T.length ≤ 20000000) :
    Calls Try.prog 14 #[.pointer (some ⟨bB, 0, none⟩)] w fun e w' => e = .returned (.bool true) ∧ Below w.heap.size w w' := by
  obtain ⟨a1, k1, rfl⟩ := row_slice h.row1
  obtain ⟨a2, k2, rfl⟩ := row_slice h.row2
  have hbx : Hid (∀ W, Below w.heap.size w W → W.cell? ⟨bB, 1, none⟩ = some (.slice a1 T.length k1) ∧ W.cell? ⟨bB, 2, none⟩ = some (.slice a2 T.length k2)) := Hid.mk (fun W q =>
    ⟨(q.cell (p := ⟨bB, 1, none⟩) h.box.1).trans (h.box.2.1 1), (q.cell (p := ⟨bB, 2, none⟩) h.box.1).trans (h.box.2.1 2)⟩)
  have hrow : Hid (∀ i, i < T.length → ∃ g1 g2 a n' cp m, a1 = some ⟨g1, 0, none⟩ ∧ a2 = some ⟨g2, 0, none⟩ ∧ 0 < m ∧ m ≤ 5000000 ∧ n' ≤ 2000000 ∧ ∀ W, Below w.heap.size w W → W.cell? ⟨g1, i, none⟩ = some (.slice a n' cp) ∧ W.cell? ⟨g2, i, none⟩ = some (.int .i64 m) ∧ ∀ k, k < n' → ∃ b, a = some ⟨b, 0, none⟩ ∧ W.cell? ⟨b, k, none⟩ = some (.int .i64 (-m))) := Hid.mk (fun i hi => by
    obtain ⟨g1, cap1, e1, l1, z1⟩ := row_cell h.row1 i (by simpa using hi)
    obtain ⟨g2, cap2, e2, l2, z2⟩ := row_cell h.row2 i (by simpa using hi)
    obtain ⟨m0, m1, a, n', cp, e3, hn', hr⟩ := h.rd T[i] (List.getElem_mem hi)
    simp only [Value.slice.injEq] at e1 e2
    refine ⟨g1, g2, a, n', cp, T[i].2, e1.1, e2.1, m0, m1, hn', fun W q => ⟨?_, ?_, fun k hk => ?_⟩⟩
    · rw [q.cell (p := ⟨g1, i, none⟩) l1, z1]
      simp [e3]
    · rw [q.cell (p := ⟨g2, i, none⟩) l2, z2]
      simp
    · obtain ⟨b, r1, r2, r3, r4⟩ := hr k hk
      exact ⟨b, r1, (q.cell (p := ⟨b, k, none⟩) r2).trans r4⟩)
  have hbl := h.box.1
  clear h
  go_enter Try.func14, Try.ntmps14
  go_wp2_with fail
  go_loopw [3] (fun x wr => ∃ i : Nat, x = .int .i64 i ∧ i ≤ T.length ∧ Hid (Below w.heap.size w wr)) (fun x _ => T.length - (intOf x).toNat)
  case atStart => exact ⟨0, rfl, by omega, Hid.mk (Below.refl _ _)⟩
  case round =>
    obtain ⟨i, rfl, hi, hI⟩ := hrel
    obtain ⟨z1, z2⟩ := hbx.out _ hI.out
    by_cases hlt : i < T.length
    · have hi1 : (i : Int) < T.length := by omega
      obtain ⟨g1, g2, a, n', cp, m, rfl, rfl, hm0, hm1, hn', hW⟩ := hrow.out i hlt
      replace hW := Hid.mk hW
      obtain ⟨z3, z4, z5⟩ := hW.out _ hI.out
      replace z5 := Hid.mk z5
      go_wp2_with fail
      rename World => wr
      clear z1 z2 z3 z4 z5
      go_loopw [4] (fun x wr => ∃ k : Nat, x = .int .i64 k ∧ k ≤ n' ∧ Hid (Below w.heap.size w wr)) (fun x _ => n' - (intOf x).toNat)
      case atStart => exact ⟨0, rfl, by omega, hI⟩
      case round =>
        clear hI
        obtain ⟨k, rfl, hk, hI⟩ := hrel
        obtain ⟨z1, z2⟩ := hbx.out _ hI.out
        obtain ⟨z3, z4, z5⟩ := hW.out _ hI.out
        by_cases hkl : k < n'
        · have hk1 : (k : Int) < n' := by omega
          obtain ⟨b, rfl, z6⟩ := z5 k hkl
          clear z5
          go_wp2_with fail
          go_quiet (fail)
          go_wp2_with fail
          go_roundw
          all_goals first | exact ⟨k + 1, by simp, by omega, Hid.mk (bel_drewN hI.out _)⟩ | (simp only [intOf]; omega)
        · have hk1 : ¬ (k : Int) < n' := by omega
          clear z5
          go_wp2_with fail
          go_roundw
          all_goals first | exact ⟨i + 1, by simp, by omega, hI⟩ | (simp only [intOf]; omega)
    · have hi1 : ¬ (i : Int) < T.length := by omega
      go_wp2_with fail
      go_ret
      exact ⟨rfl, hI.out⟩
end F
end Go.Proofs.Ytoppcikacakjcaa


/-
  Stage 8, flow: lists of numbers that are the same.
-/
namespace Go.Proofs.Ytoppcikacakjcaa
namespace F
open Go.RowKit
open T

set_option maxHeartbeats 2000000 in
theorem ints_any (E : List Int) (a b : Option Addr) (c d : Nat) (w : World) (h1 : NIn w.heap.size w a E) (h2 : NIn w.heap.size w b E) (hn : E.length < 2000000) :
    Calls Try.prog 25 #[.slice a E.length c, .slice b E.length d] w fun e w' => e = .returned (.bool true) ∧ Below w.heap.size w w' := by
  have hnn : ((E.length : Int) != (E.length : Int)) = false := by simp
  replace h1 := Hid.mk h1
  replace h2 := Hid.mk h2
  go_enter Try.func25, Try.ntmps25
  go_wp2_with fail
  go_loopw [5] (fun x wr => ∃ j : Nat, x = .int .i64 j ∧ j ≤ E.length ∧ Hid (Below w.heap.size w wr)) (fun x _ => E.length - (intOf x).toNat)
  case atStart => exact ⟨0, rfl, by omega, Hid.mk (Below.refl _ _)⟩
  case round =>
    obtain ⟨j, rfl, hj, hI⟩ := hrel
    by_cases hlt : j < E.length
    · have hi1 : (j : Int) < E.length := by omega
      obtain ⟨b1, o1, rfl, _, q1, y1⟩ := h1.out j hlt
      obtain ⟨b2, o2, rfl, _, q2, y2⟩ := h2.out j hlt
      have z1 := (hI.out.cell (p := ⟨b1, o1 + j, none⟩) q1).trans y1
      have z2 := (hI.out.cell (p := ⟨b2, o2 + j, none⟩) q2).trans y2
      clear y1 y2
      generalize E[j] = x at *
      have hxx : (x != x) = false := by simp
      go_wp2_with fail
      go_quiet (fail)
      go_wp2_with fail
      go_roundw
      all_goals first | exact ⟨j + 1, by simp, by omega, Hid.mk (bel_drewN hI.out _)⟩ | (simp only [intOf]; omega)
    · have hi1 : ¬ (j : Int) < E.length := by omega
      go_wp2_with fail
      go_ret
      exact ⟨rfl, hI.out⟩
end F
end Go.Proofs.Ytoppcikacakjcaa
