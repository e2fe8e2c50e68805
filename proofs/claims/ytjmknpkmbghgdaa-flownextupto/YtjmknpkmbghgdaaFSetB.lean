/-
  Stage 8, flow: a new set; a set filled; its truths.
-/
import Derived.Test.YtjmknpkmbghgdaaFSet
namespace Go.Proofs.Ytjmknpkmbghgdaa
namespace F
open Go.RowKit
open T

theorem SIn.new (w : World) (room : Nat) : SIn (w.alloc (.cells (Array.replicate ((room + 63) / 64) (.int .u64 0)) 73)) w.heap.size room (fun _ => false) := by
  refine ⟨List.replicate ((room + 63) / 64) 0, by simp, ?_, fun x hx => ?_, fun n hn => ?_⟩
  · have := At.new w (Array.replicate ((room + 63) / 64) (.int .u64 0)) 73
    simpa using this
  · rw [List.eq_of_mem_replicate hx]; omega
  · rw [List.getElem?_replicate]
    split <;> simp
theorem info_parts' {t : TypeId} {z : Value} {s b : Nat} (h : (Try.prog.info? t).map (fun i => (i.zero, i.size, i.bytes)) = some (some z, s, b)) :
    ∃ i, Try.prog.info? t = some i ∧ i.zero = some z ∧ i.size = s ∧ i.bytes = b := by
  obtain ⟨i, hi, he⟩ := Option.map_eq_some_iff.1 h
  simp only [Prod.mk.injEq] at he
  exact ⟨i, hi, he.1, he.2.1, he.2.2⟩
theorem made_one (z : Value) (n : Nat) : madeCells #[z] n = Array.replicate n z := by
  apply Array.ext_getElem?
  intro i
  simp only [madeCells, Array.getElem?_map, Array.getElem?_range, Array.getElem?_replicate]
  by_cases h : i < n
  · simp [h, Nat.mod_one]
  · simp [h]
/-- A row of one cell an element, made. -/
theorem make_row {t e : TypeId} {z : Value} {b : Nat} (ht : Try.prog.underlying t = some (.slice e)) (hi : (Try.prog.info? e).map (fun i => (i.zero, i.size, i.bytes)) = some (some z, 1, b)) (hz : z.cells = #[z]) (hb : b ≤ 64) (n : Nat) (hn : n ≤ 2000000) (w : World) :
    (Instr.makeSlice t (.int .i64 n) (.int .i64 n)).run Try.prog w = .ok (.slice (some ⟨w.heap.size, 0, none⟩) n n) (w.alloc (.cells (Array.replicate n z) e)) := by
  obtain ⟨i0, hi0, hz0, hz1, hz2⟩ := info_parts' hi
  have hbb : (i0.bytes : Int) * (n : Int) ≤ 281474976710656 := by
    rw [hz2]
    have : b * n ≤ 64 * 2000000 := Nat.mul_le_mul hb hn
    have h : ((b * n : Nat) : Int) ≤ 281474976710656 := by omega
    rwa [Int.natCast_mul] at h
  have h := run_make (P := Try.prog) w t e i0 z ht hi0 hz0 .i64 .i64 n n (by omega) (by omega) hbb (by omega)
  rw [hz1, hz, Nat.mul_one, Int.toNat_natCast, made_one] at h
  exact h
theorem make_u64 (n : Nat) (hn : n ≤ 2000000) (w : World) : (Instr.makeSlice 53 (.int .i64 n) (.int .i64 n)).run Try.prog w = .ok (.slice (some ⟨w.heap.size, 0, none⟩) n n) (w.alloc (.cells (Array.replicate n (.int .u64 0)) 73)) :=
  make_row (b := 8) Try.underlying53 (by kernel_rfl) rfl (by decide) n hn w
theorem make_bools (n : Nat) (hn : n ≤ 2000000) (w : World) : (Instr.makeSlice 25 (.int .i64 n) (.int .i64 n)).run Try.prog w = .ok (.slice (some ⟨w.heap.size, 0, none⟩) n n) (w.alloc (.cells (Array.replicate n (.bool false)) 4)) :=
  make_row (b := 1) Try.underlying25 (by kernel_rfl) rfl (by decide) n hn w
theorem make_ints (n : Nat) (hn : n ≤ 2000000) (w : World) : (Instr.makeSlice 23 (.int .i64 n) (.int .i64 n)).run Try.prog w = .ok (.slice (some ⟨w.heap.size, 0, none⟩) n n) (w.alloc (.cells (Array.replicate n (.int .i64 0)) 3)) :=
  make_row (b := 8) Try.underlying23 (by kernel_rfl) rfl (by decide) n hn w
set_option maxHeartbeats 1000000 in
theorem newSet_any (room : Nat) (w : World) (hr : room < 2000000) :
    Calls Try.prog 43 #[.int .i64 room] w fun e w' => e = .returned (sv (w.heap.size + 1) room) ∧ SIn w' (w.heap.size + 1) room (fun _ => false) ∧ Below w.heap.size w w' ∧ w'.heap.size = w.heap.size + 2 := by
  have h3 : ((room : Int) + 64 - 1) / 64 = (((room + 63) / 64 : Nat) : Int) := by omega
  have h4 : (0 : Int) ≤ (((room + 63) / 64 : Nat) : Int) := by omega
  have hN := fun W => SIn.new W room
  have hm := make_u64 ((room + 63) / 64) (by omega)
  unfold sv
  generalize (room + 63) / 64 = nw at *
  replace hN := Hid.mk hN
  go_enter Try.func43, Try.ntmps43
  go_wp2_with fail
  have hN1 := hN.out (w.alloc (.cells #[.slice (some ⟨w.heap.size + 1, 0, none⟩) nw nw, .int .i64 room] 55))
  rw [World.size_alloc] at hN1
  simp [bodyPost, results, Try.results43, go_sem]
  exact ⟨hN1, by (repeat (first | assumption | with_reducible exact Below.refl _ _ | with_reducible refine Below.alloc ?_ (by simp <;> omega) _ | with_reducible refine Below.setCell ?_ (by simp <;> omega) _ | with_reducible refine Below.drew ?_))⟩
/-- Words, the first of them full. -/
def FillAt (w0 : World) (X nw room : Nat) (w : World) (j : Nat) (wr : World) : Prop :=
  Hid (∃ W : List Nat, W.length = nw ∧ At wr X (W.map fun n : Nat => Value.int .u64 n).toArray ∧ (∀ x ∈ W, x < 18446744073709551616) ∧ (∀ k, k < j → W[k]? = some 18446744073709551615) ∧ Kp (fun k => k = X) w0 wr ∧ At wr w.heap.size #[.slice (some ⟨X, 0, none⟩) nw nw, .int .i64 room] ∧ w0.heap.size = w.heap.size)
set_option maxHeartbeats 1000000 in
theorem fill_any (X room : Nat) (s : Nat → Bool) (w : World) (h : SIn w X room s) (hr : room < 2000000) :
    Calls Try.prog 48 #[sv X room] w fun e w' => e = .returned (.tuple #[]) ∧ SIn w' X room (fun _ => true) ∧ Kp (fun k => k = X) w w' := by
  have hX := h.lt
  obtain ⟨W0, h1, h2, h3, h4⟩ := h
  unfold sv
  have hnw : (room + 63) / 64 ≤ 2000000 := by omega
  have hF : FillAt w X ((room + 63) / 64) room w 0 (w.alloc (.cells #[.slice (some ⟨X, 0, none⟩) ((room + 63) / 64) ((room + 63) / 64), .int .i64 room] 55)) :=
    Hid.mk ⟨W0, h1, h2.alloc _, h3, fun k hk => by omega, Kp.alloc _ _ _, At.new w _ _, rfl⟩
  have hE : ∀ wr, FillAt w X ((room + 63) / 64) room w ((room + 63) / 64) wr → SIn wr X room (fun _ => true) ∧ Kp (fun k => k = X) w wr := fun wr q => by
    obtain ⟨W, q1, q2, q3, q4, q5, q6, q7⟩ := q.out
    refine ⟨⟨W, q1, q2, q3, fun n hn => ?_⟩, q5⟩
    rw [q4 (n / 64) (by omega)]
    show true = Nat.testBit (2 ^ 64 - 1) (n % 64)
    rw [Nat.testBit_two_pow_sub_one]
    have := Nat.mod_lt n (show 0 < 64 by omega)
    simp [this]
  have hStep : ∀ j wr, FillAt w X ((room + 63) / 64) room w j wr → j < (room + 63) / 64 → (∃ y, wr.cell? ⟨X, j, none⟩ = some y) ∧ wr.frozen? ⟨X, j, none⟩ = false ∧ wr.cell? ⟨w.heap.size, 0, none⟩ = some (.slice (some ⟨X, 0, none⟩) ((room + 63) / 64) ((room + 63) / 64)) ∧ FillAt w X ((room + 63) / 64) room w (j + 1) (wr.setCell ⟨X, j, none⟩ (.int .u64 18446744073709551615)) := fun j wr q hj => by
    obtain ⟨W, q1, q2, q3, q4, q5, q6, q7⟩ := q.out
    have hjl : j < W.length := by omega
    refine ⟨⟨.int .u64 (W[j] : Nat), by rw [q2.2.1]; simp [hjl]⟩, q2.2.2 j, q6.2.1 0, Hid.mk ⟨W.set j 18446744073709551615, by simp [q1], ?_, fun x hx => ?_, fun k hk => ?_, q5.trans (Kp.set (S := fun k => k = X) wr _ _ rfl) (fun k r => .inl r), q6.set_other _ (by omega), q7⟩⟩
    · have := q2.set j (.int .u64 18446744073709551615) (by simpa using hjl)
      simpa [List.map_set] using this
    · rcases List.mem_or_eq_of_mem_set hx with r | r
      · exact q3 x r
      · rw [r]; omega
    · by_cases e : k = j
      · subst e; simp [hjl]
      · rw [List.getElem?_set_ne (fun r => e r.symm)]
        exact q4 k (by omega)
  clear h1 h2 h3 h4
  generalize (room + 63) / 64 = nw at *
  replace hE := Hid.mk hE
  replace hStep := Hid.mk hStep
  go_enter Try.func48, Try.ntmps48
  go_wp2_with fail
  go_loopw [6] (fun i wr => ∃ j : Nat, i = .int .i64 j ∧ j ≤ nw ∧ FillAt w X nw room w j wr) (fun i _ => nw - (intOf i).toNat)
  case atStart => exact ⟨0, rfl, by omega, hF⟩
  case round =>
    obtain ⟨j, rfl, hj, hI⟩ := hrel
    by_cases hlt : j < nw
    · obtain ⟨⟨y, s1⟩, s2, s3, s4⟩ := hStep.out j wr hI hlt
      have hi1 : (j : Int) < nw := by omega
      have hw1 : IntKind.i64.wrap ((j : Int) + 1) = ((j + 1 : Nat) : Int) := by rw [IntKind.wrap_i64]; omega
      go_wp2_with fail
      go_roundw
      all_goals first | exact ⟨j + 1, by simp, by omega, s4⟩ | (simp only [intOf]; omega)
    · have hi1 : ¬ (j : Int) < nw := by omega
      have ej : j = nw := by omega
      subst ej
      go_wp2_with fail
      go_end0
      exact ⟨rfl, hE.out _ hI⟩
/-- Truths, the first of them told. -/
def TruAt (w : World) (X nw room : Nat) (s : Nat → Bool) (j : Nat) (wr : World) : Prop :=
  Hid (Below w.heap.size w wr ∧ At wr w.heap.size #[.slice (some ⟨X, 0, none⟩) nw nw, .int .i64 room] ∧ w.heap.size + 1 < wr.heap.size ∧
    (∀ k, k < room → wr.cell? ⟨w.heap.size + 1, k, none⟩ = some (.bool (if k < j then s k else false))) ∧ (∀ k, room ≤ k → wr.cell? ⟨w.heap.size + 1, k, none⟩ = none) ∧ ∀ o, wr.frozen? ⟨w.heap.size + 1, o, none⟩ = false)
set_option maxHeartbeats 1000000 in
theorem truths_any (X room : Nat) (s : Nat → Bool) (w : World) (h : SIn w X room s) (hr : room < 2000000) :
    Calls Try.prog 33 #[sv X room] w fun e w' => ∃ g, e = .returned (.slice (some ⟨g, 0, none⟩) room room) ∧ w.heap.size ≤ g ∧ At w' g ((List.range room).map fun k => Value.bool (s k)).toArray ∧ Below w.heap.size w w' := by
  have hX := h.lt
  have hm := make_bools room (by omega)
  have hH := fun (k : Nat) (hk : k < room) W (q : Below w.heap.size w W) => has_any X room k s W (h.below q hX) hr hk
  unfold sv at *
  generalize (room + 63) / 64 = nw at *
  have h0 : TruAt w X nw room s 0 ((w.alloc (.cells #[.slice (some ⟨X, 0, none⟩) nw nw, .int .i64 room] 55)).alloc (.cells (Array.replicate room (.bool false)) 4)) := by
    have a2 := At.next w (.cells #[.slice (some ⟨X, 0, none⟩) nw nw, .int .i64 room] 55) (Array.replicate room (.bool false)) 4
    refine Hid.mk ⟨by (repeat (first | assumption | with_reducible exact Below.refl _ _ | with_reducible refine Below.alloc ?_ (by simp <;> omega) _ | with_reducible refine Below.setCell ?_ (by simp <;> omega) _ | with_reducible refine Below.drew ?_)), (At.new w _ _).alloc _, a2.1, fun k hk => ?_, fun k hk => ?_, a2.2.2⟩
    · rw [a2.2.1]; simp [hk]
    · rw [a2.2.1]; simp; omega
  have hE : ∀ wr, TruAt w X nw room s room wr → At wr (w.heap.size + 1) ((List.range room).map fun k => Value.bool (s k)).toArray ∧ Below w.heap.size w wr := fun wr q => by
    obtain ⟨q1, q2, q3, q4, q5, q6⟩ := q.out
    refine ⟨⟨q3, fun o => ?_, q6⟩, q1⟩
    by_cases ho : o < room
    · rw [q4 o ho]; simp [ho]
    · rw [q5 o (by omega), eq_comm, List.getElem?_toArray, List.getElem?_eq_none (by simp; omega)]
  have hS : ∀ j wr w1, TruAt w X nw room s j wr → j < room → Below wr.heap.size wr w1 → TruAt w X nw room s (j + 1) (w1.setCell ⟨w.heap.size + 1, j, none⟩ (.bool (s j))) := fun j wr w1 q hj hb => by
    obtain ⟨q1, q2, q3, q4, q5, q6⟩ := q.out
    have hsz := q1.size
    have hsb := hb.size
    refine Hid.mk ⟨(q1.trans (hb.mono hsz)).setCell (by simp) _, (at_below q2 hb q2.1).set_other _ (by omega), by simpa using Nat.lt_of_lt_of_le q3 hsb, fun k hk => ?_, fun k hk => ?_, fun o => by simpa using (hb.frozen (p := ⟨w.heap.size + 1, o, none⟩) q3).trans (q6 o)⟩
    · by_cases e : k = j
      · subst e
        rw [World.cell?_setCell_same _ _ _ ((hb.cell (p := ⟨w.heap.size + 1, k, none⟩) q3).trans (q4 k hk)), if_pos (by omega)]
      · rw [cso (fun _ r => e r.symm), hb.cell (p := ⟨w.heap.size + 1, k, none⟩) q3, q4 k hk]
        by_cases e2 : k < j
        · rw [if_pos e2, if_pos (by omega)]
        · rw [if_neg e2, if_neg (by omega)]
    · rw [cso (fun _ r => by omega), hb.cell (p := ⟨w.heap.size + 1, k, none⟩) q3, q5 k hk]
  have hC : ∀ j wr, TruAt w X nw room s j wr → j < room → (∃ y, wr.cell? ⟨w.heap.size + 1, j, none⟩ = some y) ∧ wr.frozen? ⟨w.heap.size + 1, j, none⟩ = false ∧ wr.cell? ⟨w.heap.size, 0, none⟩ = some (.slice (some ⟨X, 0, none⟩) nw nw) ∧ wr.cell? ⟨w.heap.size, 1, none⟩ = some (.int .i64 room) ∧ Below w.heap.size w wr ∧ w.heap.size + 1 < wr.heap.size := fun j wr q hj => by
    obtain ⟨q1, q2, q3, q4, q5, q6⟩ := q.out
    exact ⟨⟨_, q4 j hj⟩, q6 j, q2.2.1 0, q2.2.1 1, q1, q3⟩
  replace h := Hid.mk h
  replace hH := Hid.mk hH
  replace hE := Hid.mk hE
  replace hS := Hid.mk hS
  replace hC := Hid.mk hC
  go_enter Try.func33, Try.ntmps33
  go_wp2_with fail
  go_loopw [10] (fun i wr => ∃ j : Nat, i = .int .i64 j ∧ j ≤ room ∧ TruAt w X nw room s j wr) (fun i _ => room - (intOf i).toNat)
  case atStart => exact ⟨0, rfl, by omega, h0⟩
  case round =>
    obtain ⟨j, rfl, hj, hI⟩ := hrel
    by_cases hlt : j < room
    · obtain ⟨⟨y, s1⟩, s2, s3, s4, s5, s6⟩ := hC.out j wr hI hlt
      have hi1 : (j : Int) < room := by omega
      replace s5 := Hid.mk s5
      go_wp2_with (go_at_call 39; refine (hH.out j hlt _ s5.out).mono ?_; rintro x w1 ⟨rfl, q1⟩; have c1 := (q1.cell (p := ⟨w.heap.size + 1, j, none⟩) s6).trans s1; have c2 := (q1.frozen (p := ⟨w.heap.size + 1, j, none⟩) s6).trans s2; have c3 := Hid.mk (hS.out j wr w1 hI hlt q1); replace q1 := Hid.mk q1)
      go_roundw
      all_goals first | exact ⟨j + 1, by simp, by omega, c3.out⟩ | (simp only [intOf]; omega)
    · have hi1 : ¬ (j : Int) < room := by omega
      have ej : j = room := by omega
      subst ej
      go_wp2_with fail
      go_ret
      exact ⟨_, rfl, by simp, (hE.out _ hI).1, (hE.out _ hI).2⟩
end F
end Go.Proofs.Ytjmknpkmbghgdaa
