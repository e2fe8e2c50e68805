/-
  Stage 8, flow: Next, whole.
-/
import Derived.Test.YtjmknpkmbghgdaaFNext
namespace Go.Proofs.Ytjmknpkmbghgdaa
namespace F
open Go.RowKit
open T

def AllAt (w : World) (n j : Nat) (wr : World) : Prop :=
  Hid (Below w.heap.size w wr ∧ ∃ l : List Int, l.length = n ∧ IOwn wr w.heap.size (.slice (some ⟨w.heap.size, 0, none⟩) n n) l ∧ ∀ k, k < j → l[k]? = some (k : Int))
set_option maxHeartbeats 1000000 in
theorem allOf_any (ca : Option Addr) (n cc : Nat) (w : World) (hn : n < 2000000) : Calls Try.prog 36 #[.slice ca n cc] w fun e w' => ∃ v, e = .returned v ∧ IOwn w' w.heap.size v ((List.range n).map fun q : Nat => (q : Int)) ∧ Below w.heap.size w w' := by
  have hm := make_ints n (by omega)
  have h0 : AllAt w n 0 (w.alloc (.cells (Array.replicate n (.int .i64 0)) 3)) := Hid.mk ⟨by (repeat (first | assumption | with_reducible exact Below.refl _ _ | with_reducible refine Below.alloc ?_ (by simp <;> omega) _ | with_reducible refine Below.setCell ?_ (by simp <;> omega) _ | with_reducible refine Below.drew ?_)), List.replicate n 0, by simp, ⟨by simp, .inr ⟨w.heap.size, n, Array.replicate n (.int .i64 0), by simp, Nat.le_refl _, (MapKept.heap_alloc w _).1, by simp, by unfold maxLen; omega, by simp, by simp⟩⟩, fun k hk => by omega⟩
  have hE : ∀ wr, AllAt w n n wr → IOwn wr w.heap.size (.slice (some ⟨w.heap.size, 0, none⟩) n n) ((List.range n).map fun q : Nat => (q : Int)) ∧ Below w.heap.size w wr := fun wr q => by
    obtain ⟨q1, l, q2, q3, q4⟩ := q.out
    have : l = (List.range n).map fun q : Nat => (q : Int) := by
      apply List.ext_getElem?
      intro k
      by_cases hk : k < n
      · rw [q4 k hk]; simp [hk]
      · rw [List.getElem?_eq_none (by omega), List.getElem?_eq_none (by simp; omega)]
    rw [← this]
    exact ⟨q3, q1⟩
  have hS : ∀ j wr, AllAt w n j wr → j < n → (∃ y, wr.cell? ⟨w.heap.size, j, none⟩ = some y) ∧ wr.frozen? ⟨w.heap.size, j, none⟩ = false ∧ AllAt w n (j + 1) (wr.setCell ⟨w.heap.size, j, none⟩ (.int .i64 (j : Int))) := fun j wr q hj => by
    obtain ⟨q1, l, q2, q3, q4⟩ := q.out
    have q3' : IOwn wr w.heap.size (.slice (some ⟨w.heap.size, 0, none⟩) l.length n) l := by rw [q2]; exact q3
    refine ⟨⟨_, own_cell q3 j (by omega)⟩, World.ownsRow.frozenAt q3' j, Hid.mk ⟨q1.setCell (Nat.le_refl _) _, l.set j (j : Int), by simp [q2], ?_, fun k hk => ?_⟩⟩
    · have := (World.ownsRow.stored q3' j (.int .i64 (j : Int))).1
      unfold IOwn
      rw [List.length_set, List.map_set, ← q2] at *
      exact this
    · by_cases e : k = j
      · subst e; simp [q2, hj]
      · rw [List.getElem?_set_ne (fun r => e r.symm)]
        exact q4 k (by omega)
  replace hE := Hid.mk hE
  replace hS := Hid.mk hS
  go_enter Try.func36, Try.ntmps36
  go_wp2_with fail
  go_loopw [10] (fun i wr => ∃ j : Nat, i = .int .i64 j ∧ j ≤ n ∧ AllAt w n j wr) (fun i _ => n - (intOf i).toNat)
  case atStart => exact ⟨0, rfl, by omega, h0⟩
  case round =>
    obtain ⟨j, rfl, hj, hI⟩ := hrel
    by_cases hlt : j < n
    · obtain ⟨⟨y, s1⟩, s2, s3⟩ := hS.out j wr hI hlt
      have hi1 : (j : Int) < n := by omega
      go_wp2_with fail
      go_roundw
      all_goals first | exact ⟨j + 1, by simp, by omega, s3⟩ | (simp only [intOf]; omega)
    · have hi1 : ¬ (j : Int) < n := by omega
      have ej : j = n := by omega
      subst ej
      go_wp2_with fail
      go_ret
      exact ⟨_, rfl, (hE.out _ hI).1, (hE.out _ hI).2⟩
theorem nin_one (w : World) (x : Int) : NIn (w.alloc (.cells #[.int .i64 x] 3)).heap.size (w.alloc (.cells #[.int .i64 x] 3)) (some ⟨w.heap.size, 0, none⟩) [x] := fun i hi => by
  obtain rfl : i = 0 := by simp at hi; omega
  exact ⟨w.heap.size, 0, rfl, by simp, by simp, (At.new w #[.int .i64 x] 3).2.1 0⟩
theorem nin_two (w : World) (x y : Int) : NIn (w.alloc (.cells #[.int .i64 x, .int .i64 y] 3)).heap.size (w.alloc (.cells #[.int .i64 x, .int .i64 y] 3)) (some ⟨w.heap.size, 0, none⟩) [x, y] := fun i hi => by
  obtain rfl | rfl : i = 0 ∨ i = 1 := by simp at hi; omega
  · exact ⟨w.heap.size, 0, rfl, by simp, by simp, (At.new w #[.int .i64 x, .int .i64 y] 3).2.1 0⟩
  · exact ⟨w.heap.size, 0, rfl, by simp, by simp, (At.new w #[.int .i64 x, .int .i64 y] 3).2.1 1⟩
theorem own_lower {w : World} {b b' : Nat} {v : Value} {l : List Int} (h : IOwn w b v l) (hb : b' ≤ b) : IOwn w b' v l := by
  refine ⟨h.1, ?_⟩
  rcases h.2 with h2 | ⟨g, cap, cur, hv, hbg, rest⟩
  · exact .inl h2
  · exact .inr ⟨g, cap, cur, hv, by omega, rest⟩
set_option maxHeartbeats 4000000 in
theorem Next_any (L : List Ins) (ca : Option Addr) (cc : Nat) (pc : Int) (w : World) (hL : LIn w.heap.size w ca L) (hn : L.length < 2000000) :
    Calls Try.prog 11 #[.slice ca L.length cc, .int .i64 pc] w fun e w' => ∃ v, e = .returned v ∧ IOwn w' w.heap.size v (nxtI L pc) ∧ Below w.heap.size w w' := by
  have hT := there_any ca L.length cc
  cases et : thB L.length pc with
  | false =>
    have e0 : nxtI L pc = [] := by simp [nxtI, et]
    rw [e0]
    replace hL := Hid.mk hL
    replace hT := Hid.mk hT
    go_enter Try.func11, Try.ntmps11
    go_wp2_with (first | (go_at_call 34; refine (hT.out _ _).mono ?_; rintro y w1 ⟨rfl, rfl⟩; rw [et]))
    go_ret
    exact ⟨_, rfl, ⟨rfl, .inl ⟨rfl, rfl⟩⟩, Below.refl _ _⟩
  | true =>
    obtain ⟨q, rfl, hq⟩ := thB_elim et
    obtain ⟨b, off, rfl, hb0, hb, five⟩ := hL q hq
    have c0 := five.1
    have c4 := five.2.2.2.2
    have hW := wayOf_any L[q].op
    have hA := allOf_any (some ⟨b, off, none⟩) L.length cc w hn
    have hq1 : (q : Int) < L.length := by omega
    have hq2 : ¬ (L.length : Int) ≤ q := by omega
    have h1 := fun x => thoseThere_any (some ⟨b, off, none⟩) L.length cc ⟨w.heap.size, 0, none⟩ 1 [x] _ (nin_one w x) (by simp)
    have h2 := fun x y => thoseThere_any (some ⟨b, off, none⟩) L.length cc ⟨w.heap.size, 0, none⟩ 2 [x, y] _ (nin_two w x y) (by simp)
    simp only [List.length_cons, List.length_nil] at h1 h2
    have fin : ∀ (o : Obj) (w1 : World) (v : Value) (l : List Int), IOwn w1 (w.alloc o).heap.size v l → Below (w.alloc o).heap.size (w.alloc o) w1 → IOwn w1 w.heap.size v l ∧ Below w.heap.size w w1 := fun o w1 v l r1 r2 =>
      ⟨own_lower r1 (by simp), ((Below.refl _ w).alloc (Nat.le_refl _) o).trans (r2.mono (by simp))⟩
    replace hL := Hid.mk hL
    replace five := Hid.mk five
    replace hT := Hid.mk hT
    replace hA := Hid.mk hA
    replace h1 := Hid.mk h1
    replace h2 := Hid.mk h2
    replace fin := Hid.mk fin
    rcases way_cases L[q].op with hy | hy | hy | hy | hy
    · rw [nxt_ends hq hy]
      rw [hy] at hW
      generalize L[q].op = op at *
      generalize L[q].m = im at *
      replace hW := Hid.mk hW
      go_enter Try.func11, Try.ntmps11
      go_wp2_with (first | (go_at_call 34; refine (hT.out _ _).mono ?_; rintro y w1 ⟨rfl, rfl⟩; rw [et]) | (go_at_call 35; refine (hW.out _).mono ?_; rintro y w1 ⟨rfl, rfl⟩))
      go_ret
      exact ⟨_, rfl, ⟨rfl, .inl ⟨rfl, rfl⟩⟩, Below.refl _ _⟩
    · rw [nxt_all hq hy]
      rw [hy] at hW
      generalize L[q].op = op at *
      generalize L[q].m = im at *
      replace hW := Hid.mk hW
      go_enter Try.func11, Try.ntmps11
      go_wp2_with (first | (go_at_call 34; refine (hT.out _ _).mono ?_; rintro y w1 ⟨rfl, rfl⟩; rw [et]) | (go_at_call 35; refine (hW.out _).mono ?_; rintro y w1 ⟨rfl, rfl⟩) | (go_at_call 36; refine hA.out.mono ?_; rintro y w1 ⟨v, rfl, k1, k2⟩; replace k1 := Hid.mk k1; replace k2 := Hid.mk k2))
      go_ret
      exact ⟨_, rfl, k1.out, k2.out⟩
    · rw [nxt_jump hq hy]
      rw [hy] at hW
      generalize L[q].op = op at *
      generalize L[q].m = im at *
      replace hW := Hid.mk hW
      go_enter Try.func11, Try.ntmps11
      go_wp2_with (first | (go_at_call 34; refine (hT.out _ _).mono ?_; rintro y w1 ⟨rfl, rfl⟩; rw [et]) | (go_at_call 35; refine (hW.out _).mono ?_; rintro y w1 ⟨rfl, rfl⟩) | (go_at_call 37; refine (h1.out _).mono ?_; rintro y w1 ⟨v, rfl, k1, k2⟩; replace k1 := Hid.mk k1; replace k2 := Hid.mk k2))
      go_ret
      exact ⟨_, rfl, fin.out _ _ _ _ k1.out k2.out⟩
    · rw [nxt_branch hq hy]
      rw [hy] at hW
      generalize L[q].op = op at *
      generalize L[q].m = im at *
      replace hW := Hid.mk hW
      go_enter Try.func11, Try.ntmps11
      go_wp2_with (first | (go_at_call 34; refine (hT.out _ _).mono ?_; rintro y w1 ⟨rfl, rfl⟩; rw [et]) | (go_at_call 35; refine (hW.out _).mono ?_; rintro y w1 ⟨rfl, rfl⟩) | (go_at_call 37; refine (h2.out _ _).mono ?_; rintro y w1 ⟨v, rfl, k1, k2⟩; replace k1 := Hid.mk k1; replace k2 := Hid.mk k2))
      go_ret
      exact ⟨_, rfl, fin.out _ _ _ _ k1.out k2.out⟩
    · rw [nxt_next hq hy]
      rw [hy] at hW
      generalize L[q].op = op at *
      generalize L[q].m = im at *
      replace hW := Hid.mk hW
      go_enter Try.func11, Try.ntmps11
      go_wp2_with (first | (go_at_call 34; refine (hT.out _ _).mono ?_; rintro y w1 ⟨rfl, rfl⟩; rw [et]) | (go_at_call 35; refine (hW.out _).mono ?_; rintro y w1 ⟨rfl, rfl⟩) | (go_at_call 37; refine (h1.out _).mono ?_; rintro y w1 ⟨v, rfl, k1, k2⟩; replace k1 := Hid.mk k1; replace k2 := Hid.mk k2))
      go_ret
      exact ⟨_, rfl, fin.out _ _ _ _ k1.out k2.out⟩
end F
end Go.Proofs.Ytjmknpkmbghgdaa
