/-
  Stage 8, flow: the ways behind an instruction; sets of numbers in memory.
-/
import Derived.Test.YtjmknpkmbghgdaaIList
import Derived.Test.YtjmknpkmbghgdaaTBase
import Derived.Deep.RegionHeld3
namespace Go.Proofs.Ytjmknpkmbghgdaa
namespace F
open Go.RowKit
open T

def wayN (op : Int) : Int := if op = 20 then 1 else if op = 21 ∨ op = 22 ∨ op = 23 ∨ op = 24 then 2 else if op = 26 then 3 else if op = 27 ∨ op = 28 ∨ op = 32 then 4 else 0
set_option maxHeartbeats 1000000 in
theorem wayOf_any (op : Int) (w : World) : Calls Try.prog 35 #[.int .u8 op] w fun e w' => e = .returned (.int .i64 (wayN op)) ∧ w' = w := by
  by_cases h : op = 20 ∨ op = 21 ∨ op = 22 ∨ op = 23 ∨ op = 24 ∨ op = 26 ∨ op = 27 ∨ op = 28 ∨ op = 32
  · rcases h with rfl | rfl | rfl | rfl | rfl | rfl | rfl | rfl | rfl <;>
    · go_enter Try.func35, Try.ntmps35
      go_wp2_with fail
      go_ret
      exact ⟨rfl, rfl⟩
  · simp only [not_or] at h
    obtain ⟨h1, h2, h3, h4, h5, h6, h7, h8, h9⟩ := h
    have e0 : wayN op = 0 := by simp [wayN, *]
    rw [e0]
    have e1 : (op == 20) = false := by simpa using h1
    have e2 : (op == 21) = false := by simpa using h2
    have e3 : (op == 22) = false := by simpa using h3
    have e4 : (op == 23) = false := by simpa using h4
    have e5 : (op == 24) = false := by simpa using h5
    have e6 : (op == 26) = false := by simpa using h6
    have e7 : (op == 27) = false := by simpa using h7
    have e8 : (op == 28) = false := by simpa using h8
    have e9 : (op == 32) = false := by simpa using h9
    clear h1 h2 h3 h4 h5 h6 h7 h8 h9
    go_enter Try.func35, Try.ntmps35
    go_wp2_with fail
    go_ret
    exact ⟨rfl, rfl⟩
def tgtB (wy : Int) : Bool := decide (wy = 1) || decide (wy = 2)
set_option maxHeartbeats 1000000 in
theorem hasTarget_any (wy : Int) (w : World) : Calls Try.prog 45 #[.int .i64 wy] w fun e w' => e = .returned (.bool (tgtB wy)) ∧ w' = w := by
  by_cases h1 : wy = 1
  · subst h1
    go_enter Try.func45, Try.ntmps45
    go_wp2_with fail
    go_ret
    exact ⟨rfl, rfl⟩
  · have e1 : (wy == 1) = false := by simpa using h1
    by_cases h2 : wy = 2
    · subst h2
      go_enter Try.func45, Try.ntmps45
      go_wp2_with fail
      go_ret
      exact ⟨rfl, rfl⟩
    · have e2 : (wy == 2) = false := by simpa using h2
      have e0 : tgtB wy = false := by simp [tgtB, h1, h2]
      rw [e0]
      clear h1 h2
      go_enter Try.func45, Try.ntmps45
      go_wp2_with fail
      go_ret
      exact ⟨rfl, rfl⟩
/-- Is it there? -/
def thB (n : Nat) (pc : Int) : Bool := decide (0 ≤ pc) && decide (pc < n)
set_option maxHeartbeats 1000000 in
theorem there_any (a : Option Addr) (n cap : Nat) (pc : Int) (w : World) : Calls Try.prog 34 #[.slice a n cap, .int .i64 pc] w fun e w' => e = .returned (.bool (thB n pc)) ∧ w' = w := by
  by_cases h1 : 0 ≤ pc
  · by_cases h2 : pc < n
    · have e0 : thB n pc = true := by simp [thB, h1, h2]
      rw [e0]
      go_enter Try.func34, Try.ntmps34
      go_wp2_with fail
      go_ret
      exact ⟨rfl, rfl⟩
    · have e0 : thB n pc = false := by simp [thB, h2]
      rw [e0]
      go_enter Try.func34, Try.ntmps34
      go_wp2_with fail
      go_ret
      exact ⟨rfl, rfl⟩
  · have e0 : thB n pc = false := by simp [thB, h1]
    rw [e0]
    go_enter Try.func34, Try.ntmps34
    go_wp2_with fail
    go_ret
    exact ⟨rfl, rfl⟩
set_option maxHeartbeats 1000000 in
theorem thereD_any (a : Option Addr) (n cap : Nat) (pc : Int) (w : World) : Calls Try.prog 41 #[.slice a n cap, .int .i64 pc] w fun e w' => e = .returned (.bool (thB n pc)) ∧ w' = w := by
  by_cases h1 : 0 ≤ pc
  · by_cases h2 : pc < n
    · have e0 : thB n pc = true := by simp [thB, h1, h2]
      rw [e0]
      go_enter Try.func41, Try.ntmps41
      go_wp2_with fail
      go_ret
      exact ⟨rfl, rfl⟩
    · have e0 : thB n pc = false := by simp [thB, h2]
      rw [e0]
      go_enter Try.func41, Try.ntmps41
      go_wp2_with fail
      go_ret
      exact ⟨rfl, rfl⟩
  · have e0 : thB n pc = false := by simp [thB, h1]
    rw [e0]
    go_enter Try.func41, Try.ntmps41
    go_wp2_with fail
    go_ret
    exact ⟨rfl, rfl⟩
/-- A set's value. -/
def sv (X room : Nat) : Value := .agg #[.slice (some ⟨X, 0, none⟩) ((room + 63) / 64) ((room + 63) / 64), .int .i64 room]
/-- A set of numbers below 'room'. -/
def SIn (w : World) (X room : Nat) (s : Nat → Bool) : Prop :=
  ∃ W : List Nat, W.length = (room + 63) / 64 ∧ At w X (W.map fun n : Nat => Value.int .u64 n).toArray ∧ (∀ x ∈ W, x < 18446744073709551616) ∧ ∀ n, n < room → s n = Nat.testBit (W[n / 64]?.getD 0) (n % 64)
set_option maxHeartbeats 1000000 in
theorem mayHave_any (X room : Nat) (pc : Int) (w : World) : Calls Try.prog 51 #[sv X room, .int .i64 pc] w fun e w' => e = .returned (.bool (thB room pc)) ∧ ∃ o, w' = w.alloc o := by
  unfold sv
  generalize (room + 63) / 64 = nw
  by_cases h1 : 0 ≤ pc
  · by_cases h2 : pc < room
    · have e0 : thB room pc = true := by simp [thB, h1, h2]
      rw [e0]
      go_enter Try.func51, Try.ntmps51
      go_wp2_with fail
      go_ret
      exact ⟨rfl, _, rfl⟩
    · have e0 : thB room pc = false := by simp [thB, h2]
      rw [e0]
      go_enter Try.func51, Try.ntmps51
      go_wp2_with fail
      go_ret
      exact ⟨rfl, _, rfl⟩
  · have e0 : thB room pc = false := by simp [thB, h1]
    rw [e0]
    go_enter Try.func51, Try.ntmps51
    go_wp2_with fail
    go_ret
    exact ⟨rfl, _, rfl⟩
theorem wrap_pow (n : Nat) : IntKind.u64.wrap (2 ^ (n % 64)) = ((2 ^ (n % 64) : Nat) : Int) := by
  rw [IntKind.wrap_u64]
  have h : 2 ^ (n % 64) < 2 ^ 64 := Nat.pow_lt_pow_right (by omega) (Nat.mod_lt _ (by omega))
  have e : ((2 : Int) ^ (n % 64)) = ((2 ^ (n % 64) : Nat) : Int) := by simp
  rw [e]
  generalize 2 ^ (n % 64) = m at *
  omega
set_option maxHeartbeats 1000000 in
theorem bitOf_any (n : Nat) (w : World) (hn : n < 2000000) : Calls Try.prog 52 #[.int .i64 n] w fun e w' => e = .returned (.int .u64 (2 ^ (n % 64) : Nat)) ∧ w' = w := by
  have hw := wrap_pow n
  go_enter Try.func52, Try.ntmps52
  go_wp2_with fail
  rw [hw]
  go_ret
  exact ⟨rfl, rfl⟩
theorem test_and (x k : Nat) : Nat.testBit x k = (((x &&& 2 ^ k : Nat) : Int) != 0) := by
  cases h : x.testBit k with
  | true =>
    have : x &&& 2 ^ k ≠ 0 := by
      intro e
      have := congrArg (fun y => Nat.testBit y k) e
      simp [Nat.testBit_and, h, Nat.testBit_two_pow_self] at this
    generalize x &&& 2 ^ k = y at *
    have : ¬ (y : Int) = 0 := by omega
    simpa using this
  | false =>
    have : x &&& 2 ^ k = 0 := by
      apply Nat.eq_of_testBit_eq
      intro j
      rw [Nat.testBit_and, Nat.zero_testBit]
      by_cases hj : k = j
      · subst hj; rw [h]; rfl
      · rw [Nat.testBit_two_pow_of_ne hj, Bool.and_false]
    rw [this]
    rfl
/-- Is a number in it? -/
def inB (room : Nat) (s : Nat → Bool) (pc : Int) : Bool := thB room pc && s pc.toNat
theorem SIn.word {w : World} {X room n : Nat} {s : Nat → Bool} (h : SIn w X room s) (hn : n < room) : ∃ x : Nat, x < 18446744073709551616 ∧ w.cell? ⟨X, n / 64, none⟩ = some (.int .u64 x) ∧ s n = Nat.testBit x (n % 64) := by
  obtain ⟨W, h1, h2, h3, h4⟩ := h
  have hlt : n / 64 < W.length := by rw [h1]; omega
  refine ⟨W[n / 64], h3 _ (List.getElem_mem hlt), ?_, ?_⟩
  · rw [h2.2.1]
    simp [hlt]
  · rw [h4 n hn]
    simp [hlt]
theorem SIn.lt {w : World} {X room : Nat} {s : Nat → Bool} (h : SIn w X room s) : X < w.heap.size := by
  obtain ⟨W, h1, h2, h3, h4⟩ := h
  exact h2.1
theorem SIn.fr {w : World} {X room : Nat} {s : Nat → Bool} (h : SIn w X room s) (o : Nat) : w.frozen? ⟨X, o, none⟩ = false := by
  obtain ⟨W, h1, h2, h3, h4⟩ := h
  exact h2.2.2 o
theorem at_below {w w1 : World} {B k : Nat} {cs : Array Value} (h : At w k cs) (hb : Below B w w1) (hk : k < B) : At w1 k cs :=
  ⟨Nat.lt_of_lt_of_le h.1 hb.size, fun o => (hb.cell (p := ⟨k, o, none⟩) hk).trans (h.2.1 o), fun o => (hb.frozen (p := ⟨k, o, none⟩) hk).trans (h.2.2 o)⟩
theorem SIn.below {w w1 : World} {B X room : Nat} {s : Nat → Bool} (h : SIn w X room s) (hb : Below B w w1) (hk : X < B) : SIn w1 X room s := by
  obtain ⟨W, h1, h2, h3, h4⟩ := h
  exact ⟨W, h1, at_below h2 hb hk, h3, h4⟩
theorem quo64 (n : Nat) (hn : n < 2000000) : IntKind.i64.wrap ((n : Int) / 64) = ((n / 64 : Nat) : Int) := by rw [IntKind.wrap_i64]; omega
set_option maxHeartbeats 1000000 in
theorem has_any (X room n : Nat) (s : Nat → Bool) (w : World) (h : SIn w X room s) (hr : room < 2000000) (hn : n < room) :
    Calls Try.prog 39 #[sv X room, .int .i64 n] w fun e w' => e = .returned (.bool (s n)) ∧ Below w.heap.size w w' := by
  have hM := mayHave_any X room n
  have hX := h.lt
  obtain ⟨x, x1, x2, x3⟩ := h.word hn
  have hB := fun W => bitOf_any n W (by omega)
  have e1 : thB room n = true := by simp [thB]; omega
  rw [e1] at hM
  simp only [x3, test_and]
  have hb := u64_and_nat x (2 ^ (n % 64)) x1 (Nat.pow_lt_pow_right (m := n % 64) (n := 64) (by omega) (Nat.mod_lt _ (by omega)))
  have hnw : ((n / 64 : Nat) : Int) < (((room + 63) / 64 : Nat) : Int) := by omega
  have hq := quo64 n (by omega)
  unfold sv at *
  generalize (room + 63) / 64 = nw at *
  generalize 2 ^ (n % 64) = bt at *
  generalize n / 64 = q at *
  replace h := Hid.mk h
  replace hM := Hid.mk hM
  replace hB := Hid.mk hB
  replace x3 := Hid.mk x3
  go_enter Try.func39, Try.ntmps39
  go_wp2_with fail
  go_region_held3 (fun W => W.cell? ⟨w.heap.size, 0, none⟩ = some (.slice (some ⟨X, 0, none⟩) nw nw) ∧ W.cell? ⟨w.heap.size, 1, none⟩ = some (.int .i64 room) ∧ W.cell? ⟨X, q, none⟩ = some (.int .u64 x)) (simp [go_sem, *]) (first | (go_at_call 51; refine (hM.out _).mono ?_; rintro x w1 ⟨rfl, o, rfl⟩) | (go_at_call 52; refine (hB.out _).mono ?_; rintro x w1 ⟨rfl, rfl⟩))
  all_goals
    go_wp2_with fail
    go_ret
    exact ⟨rfl, by (repeat (first | assumption | with_reducible exact Below.refl _ _ | with_reducible refine Below.alloc ?_ (by simp <;> omega) _ | with_reducible refine Below.setCell ?_ (by simp <;> omega) _ | with_reducible refine Below.drew ?_))⟩
/-- What adding answers; and leaves. -/
def adB (room : Nat) (s : Nat → Bool) (pc : Int) : Bool := thB room pc && !s pc.toNat
def adS (s : Nat → Bool) (pc : Int) : Nat → Bool := fun n => s n || decide ((n : Int) = pc)
theorem SIn.same {w : World} {X room : Nat} {s s' : Nat → Bool} (h : SIn w X room s) (e : ∀ n, n < room → s' n = s n) : SIn w X room s' := by
  obtain ⟨W, h1, h2, h3, h4⟩ := h
  exact ⟨W, h1, h2, h3, fun n hn => (e n hn).trans (h4 n hn)⟩
theorem SIn.put {w : World} {X room n x : Nat} {s : Nat → Bool} (h : SIn w X room s) (hn : n < room) (hx : w.cell? ⟨X, n / 64, none⟩ = some (.int .u64 x)) : SIn (w.setCell ⟨X, n / 64, none⟩ (.int .u64 ((x ||| 2 ^ (n % 64) : Nat) : Int))) X room (adS s n) := by
  obtain ⟨W, h1, h2, h3, h4⟩ := h
  have hlt : n / 64 < W.length := by rw [h1]; omega
  have e0 : x = W[n / 64] := by
    rw [h2.2.1] at hx
    simp [hlt] at hx
    omega
  have hx' : x < 18446744073709551616 := by rw [e0]; exact h3 _ (List.getElem_mem hlt)
  have hp : 2 ^ (n % 64) < 2 ^ 64 := Nat.pow_lt_pow_right (by omega) (Nat.mod_lt _ (by omega))
  have ho : x ||| 2 ^ (n % 64) < 2 ^ 64 := Nat.or_lt_two_pow hx' hp
  refine ⟨W.set (n / 64) (x ||| 2 ^ (n % 64)), by simp [h1], ?_, fun y hy => ?_, fun m hm => ?_⟩
  · have := h2.set (n / 64) (.int .u64 ((x ||| 2 ^ (n % 64) : Nat) : Int)) (by simpa using hlt)
    simpa [List.map_set] using this
  · rcases List.mem_or_eq_of_mem_set hy with r | r
    · exact h3 y r
    · rw [r]; exact ho
  · unfold adS
    rw [h4 m hm]
    by_cases hq : m / 64 = n / 64
    · rw [hq]
      simp only [List.getElem?_set_self hlt, Option.getD_some, Nat.testBit_or, Nat.testBit_two_pow, List.getElem?_eq_getElem hlt, ← e0]
      congr 1
      rw [decide_eq_decide]
      omega
    · rw [List.getElem?_set_ne (fun q => hq q.symm)]
      have : ¬ (m : Int) = n := by omega
      simp [this]
set_option maxHeartbeats 1000000 in
theorem add_any (X room : Nat) (s : Nat → Bool) (pc : Int) (w : World) (h : SIn w X room s) (hr : room < 2000000) :
    Calls Try.prog 44 #[sv X room, .int .i64 pc] w fun e w' => e = .returned (.bool (adB room s pc)) ∧ SIn w' X room (adS s pc) ∧ Kp (fun k => k = X) w w' := by
  have hM := mayHave_any X room pc
  have hX := h.lt
  cases e0 : thB room pc with
  | false =>
    rw [e0] at hM
    have e1 : adB room s pc = false := by simp [adB, e0]
    rw [e1]
    have hS : ∀ W, Below w.heap.size w W → SIn W X room (adS s pc) ∧ Kp (fun k => k = X) w W := fun W q => by
      refine ⟨(h.below q hX).same (fun n hn => ?_), Kp.of_below q⟩
      have : ¬ (n : Int) = pc := by
        intro r
        subst r
        simp [thB] at e0
        omega
      simp [adS, this]
    unfold sv at *
    generalize (room + 63) / 64 = nw at *
    replace h := Hid.mk h
    replace hM := Hid.mk hM
    replace hS := Hid.mk hS
    go_enter Try.func44, Try.ntmps44
    go_wp2_with (go_at_call 51; refine (hM.out _).mono ?_; rintro x w1 ⟨rfl, o, rfl⟩)
    go_ret
    exact ⟨rfl, hS.out _ (by (repeat (first | assumption | with_reducible exact Below.refl _ _ | with_reducible refine Below.alloc ?_ (by simp <;> omega) _ | with_reducible refine Below.setCell ?_ (by simp <;> omega) _ | with_reducible refine Below.drew ?_)))⟩
  | true =>
    simp only [thB, Bool.and_eq_true, decide_eq_true_eq] at e0
    obtain ⟨n, rfl⟩ := Int.eq_ofNat_of_zero_le e0.1
    have hn : n < room := by omega
    have e1 : thB room n = true := by simp [thB]; omega
    rw [e1] at hM
    have hH := fun W (q : Below w.heap.size w W) => has_any X room n s W (h.below q hX) hr hn
    cases e2 : s n with
    | true =>
      have e3 : adB room s n = false := by simp [adB, e2]
      rw [e3]
      rw [e2] at hH
      have hS : ∀ W, Below w.heap.size w W → SIn W X room (adS s n) ∧ Kp (fun k => k = X) w W := fun W q => by
        refine ⟨(h.below q hX).same (fun m hm => ?_), Kp.of_below q⟩
        by_cases r : m = n
        · subst r; simp [adS, e2]
        · have : ¬ (m : Int) = n := by omega
          simp [adS, this]
      unfold sv at *
      generalize (room + 63) / 64 = nw at *
      replace h := Hid.mk h
      replace hM := Hid.mk hM
      replace hH := Hid.mk hH
      replace hS := Hid.mk hS
      go_enter Try.func44, Try.ntmps44
      go_wp2_with (first | (go_at_call 51; refine (hM.out _).mono ?_; rintro x w1 ⟨rfl, o, rfl⟩) | (go_at_call 39; refine (hH.out _ (by (repeat (first | assumption | with_reducible exact Below.refl _ _ | with_reducible refine Below.alloc ?_ (by simp <;> omega) _ | with_reducible refine Below.setCell ?_ (by simp <;> omega) _ | with_reducible refine Below.drew ?_)))).mono ?_; rintro x w1 ⟨rfl, q1⟩; have Q1 : Below w.heap.size w w1 := Below.trans (by (repeat (first | assumption | with_reducible exact Below.refl _ _ | with_reducible refine Below.alloc ?_ (by simp <;> omega) _ | with_reducible refine Below.setCell ?_ (by simp <;> omega) _ | with_reducible refine Below.drew ?_))) (q1.mono (by simp <;> omega))))
      go_ret
      exact ⟨rfl, hS.out _ Q1⟩
    | false =>
      have e3 : adB room s n = true := by simp [adB, e2, e1]
      rw [e3]
      rw [e2] at hH
      obtain ⟨x, x1, x2, x3⟩ := h.word hn
      have hB := fun W => bitOf_any n W (by omega)
      have hp : 2 ^ (n % 64) < 18446744073709551616 := Nat.pow_lt_pow_right (m := n % 64) (n := 64) (by omega) (Nat.mod_lt _ (by omega))
      have hb := u64_or_nat x (2 ^ (n % 64)) x1 hp
      have hnw : ((n / 64 : Nat) : Int) < (((room + 63) / 64 : Nat) : Int) := by omega
      have hq := quo64 n (by omega)
      have hS : ∀ W, Below w.heap.size w W → SIn (W.setCell ⟨X, n / 64, none⟩ (.int .u64 ((x ||| 2 ^ (n % 64) : Nat) : Int))) X room (adS s n) ∧ Kp (fun k => k = X) w (W.setCell ⟨X, n / 64, none⟩ (.int .u64 ((x ||| 2 ^ (n % 64) : Nat) : Int))) := fun W q =>
        ⟨(h.below q hX).put hn ((q.cell (p := ⟨X, n / 64, none⟩) hX).trans x2), (Kp.of_below q).trans (Kp.set (S := fun k => k = X) W _ _ rfl) (fun k r => .inl r)⟩
      have hC : ∀ W, Below w.heap.size w W → W.cell? ⟨X, n / 64, none⟩ = some (.int .u64 x) ∧ (∀ o, W.frozen? ⟨X, o, none⟩ = false) := fun W q => ⟨(q.cell (p := ⟨X, n / 64, none⟩) hX).trans x2, fun o => (q.frozen (p := ⟨X, o, none⟩) hX).trans (h.fr o)⟩
      unfold sv at *
      generalize (room + 63) / 64 = nw at *
      generalize 2 ^ (n % 64) = bt at *
      generalize n / 64 = q at *
      replace h := Hid.mk h
      replace hM := Hid.mk hM
      replace hH := Hid.mk hH
      replace hS := Hid.mk hS
      replace hC := Hid.mk hC
      replace hB := Hid.mk hB
      clear x2 x3
      go_enter Try.func44, Try.ntmps44
      go_wp2_with (first | (go_at_call 51; refine (hM.out _).mono ?_; rintro x w1 ⟨rfl, o, rfl⟩) | (go_at_call 39; refine (hH.out _ (by (repeat (first | assumption | with_reducible exact Below.refl _ _ | with_reducible refine Below.alloc ?_ (by simp <;> omega) _ | with_reducible refine Below.setCell ?_ (by simp <;> omega) _ | with_reducible refine Below.drew ?_)))).mono ?_; rintro x w1 ⟨rfl, q1⟩; have Q1 : Below (w.heap.size + 1) (w.alloc (.cells #[.slice (some ⟨X, 0, none⟩) nw nw, .int .i64 room] 55)) w1 := Below.trans (by (repeat (first | assumption | with_reducible exact Below.refl _ _ | with_reducible refine Below.alloc ?_ (by simp <;> omega) _ | with_reducible refine Below.setCell ?_ (by simp <;> omega) _ | with_reducible refine Below.drew ?_))) (q1.mono (by simp <;> omega))))
      have A1 := at_below (At.new w #[.slice (some ⟨X, 0, none⟩) nw nw, .int .i64 room] 55) Q1 (Nat.lt_succ_self _)
      have Q2 : Below w.heap.size w w1 := ((Below.refl _ w).alloc (Nat.le_refl _) _).trans (Q1.mono (by omega))
      have z0 : w1.cell? ⟨w.heap.size, 0, none⟩ = some (.slice (some ⟨X, 0, none⟩) nw nw) := A1.2.1 0
      have zl := A1.1
      obtain ⟨c1, c2⟩ := hC.out w1 Q2
      have hX' : X < w1.heap.size := Nat.lt_of_lt_of_le hX Q2.size
      replace Q1 := Hid.mk Q1
      replace Q2 := Hid.mk Q2
      replace A1 := Hid.mk A1
      go_region_with (go_at_call 52; refine (hB.out _).mono ?_; rintro x w2 ⟨rfl, rfl⟩)
      all_goals
        go_wp2_with fail
        go_ret
        exact ⟨rfl, hS.out w1.drew Q2.out.drew⟩
end F
end Go.Proofs.Ytjmknpkmbghgdaa
