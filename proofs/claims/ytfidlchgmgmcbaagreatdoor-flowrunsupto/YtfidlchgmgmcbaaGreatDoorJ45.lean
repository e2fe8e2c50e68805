import Derived.Test.YtfidlchgmgmcbaaGreatDoorJ03
import Derived.Test.YtfidlchgmgmcbaaGreatDoorJTBase
import Derived.Deep.RegionHeld3
import Derived.Test.YtfidlchgmgmcbaaGreatDoorJ44
namespace Go.Proofs.YtfidlchgmgmcbaaGreatDoor
set_option maxRecDepth 100000
set_option maxHeartbeats 40000000
namespace F
open Go.RowKit
open T

def wayN (op : Int) : Int := if op = 20 then 1 else if op = 21 ∨ op = 22 ∨ op = 23 ∨ op = 24 then 2 else if op = 26 then 3 else if op = 27 ∨ op = 28 ∨ op = 32 then 4 else 0
theorem wayOf_any (op : Int) (w : World) : Calls Tryz.prog 24 #[.int .u8 op] w fun e w' => e = .returned (.int .i64 (wayN op)) ∧ w' = w := by
 by_cases h : op = 20 ∨ op = 21 ∨ op = 22 ∨ op = 23 ∨ op = 24 ∨ op = 26 ∨ op = 27 ∨ op = 28 ∨ op = 32
 · rcases h with rfl | rfl | rfl | rfl | rfl | rfl | rfl | rfl | rfl <;>
   · go_enter Tryz.func24, Tryz.ntmps24
     go_wp2_with fail
     go_ret
     exact ⟨rfl, rfl⟩
 · simp only [not_or] at h
   obtain ⟨h1, h2, h3, h4, h5, h6, h7, h8, h9⟩ := h
   have e0 : wayN op = 0 := by simp [wayN, *]
   rw [e0]
   have e1 : (op == 20) = false := by simpa using h1
   have e2 : (op == 21) = false := by simpa using h2
   have e3 : (op == 22) = false := by simpa using h3
   have e4 : (op == 23) = false := by simpa using h4
   have e5 : (op == 24) = false := by simpa using h5
   have e6 : (op == 26) = false := by simpa using h6
   have e7 : (op == 27) = false := by simpa using h7
   have e8 : (op == 28) = false := by simpa using h8
   have e9 : (op == 32) = false := by simpa using h9
   clear h1 h2 h3 h4 h5 h6 h7 h8 h9
   go_enter Tryz.func24, Tryz.ntmps24
   go_wp2_with fail
   go_ret
   exact ⟨rfl, rfl⟩
def tgtB (wy : Int) : Bool := decide (wy = 1) || decide (wy = 2)
theorem hasTarget_any (wy : Int) (w : World) : Calls Tryz.prog 31 #[.int .i64 wy] w fun e w' => e = .returned (.bool (tgtB wy)) ∧ w' = w := by
 by_cases h1 : wy = 1
 · subst h1
   go_enter Tryz.func31, Tryz.ntmps31
   go_wp2_with fail
   go_ret
   exact ⟨rfl, rfl⟩
 · have e1 : (wy == 1) = false := by simpa using h1
   by_cases h2 : wy = 2
   · subst h2
     go_enter Tryz.func31, Tryz.ntmps31
     go_wp2_with fail
     go_ret
     exact ⟨rfl, rfl⟩
   · have e2 : (wy == 2) = false := by simpa using h2
     have e0 : tgtB wy = false := by simp [tgtB, h1, h2]
     rw [e0]
     clear h1 h2
     go_enter Tryz.func31, Tryz.ntmps31
     go_wp2_with fail
     go_ret
     exact ⟨rfl, rfl⟩
def thB (n : Nat) (pc : Int) : Bool := decide (0 ≤ pc) && decide (pc < n)
theorem there_any (a : Option Addr) (n cap : Nat) (pc : Int) (w : World) : Calls Tryz.prog 23 #[.slice a n cap, .int .i64 pc] w fun e w' => e = .returned (.bool (thB n pc)) ∧ w' = w := by
 by_cases h1 : 0 ≤ pc
 · by_cases h2 : pc < n
   · have e0 : thB n pc = true := by simp [thB, h1, h2]
     rw [e0]
     go_enter Tryz.func23, Tryz.ntmps23
     go_wp2_with fail
     go_ret
     exact ⟨rfl, rfl⟩
   · have e0 : thB n pc = false := by simp [thB, h2]
     rw [e0]
     go_enter Tryz.func23, Tryz.ntmps23
     go_wp2_with fail
     go_ret
     exact ⟨rfl, rfl⟩
 · have e0 : thB n pc = false := by simp [thB, h1]
   rw [e0]
   go_enter Tryz.func23, Tryz.ntmps23
   go_wp2_with fail
   go_ret
   exact ⟨rfl, rfl⟩
def sv (X room : Nat) : Value := .agg #[.slice (some ⟨X, 0, none⟩) ((room + 63) / 64) ((room + 63) / 64), .int .i64 room]
def SIn (w : World) (X room : Nat) (s : Nat → Bool) : Prop :=
 ∃ W : List Nat, W.length = (room + 63) / 64 ∧ At w X (W.map fun n : Nat => Value.int .u64 n).toArray ∧ (∀ x ∈ W, x < 18446744073709551616) ∧ ∀ n, n < room → s n = Nat.testBit (W[n / 64]?.getD 0) (n % 64)
theorem mayHave_any (X room : Nat) (pc : Int) (w : World) : Calls Tryz.prog 58 #[sv X room, .int .i64 pc] w fun e w' => e = .returned (.bool (thB room pc)) ∧ ∃ o, w' = w.alloc o := by
 unfold sv
 generalize (room + 63) / 64 = nw
 by_cases h1 : 0 ≤ pc
 · by_cases h2 : pc < room
   · have e0 : thB room pc = true := by simp [thB, h1, h2]
     rw [e0]
     go_enter Tryz.func58, Tryz.ntmps58
     go_wp2_with fail
     go_ret
     exact ⟨rfl, _, rfl⟩
   · have e0 : thB room pc = false := by simp [thB, h2]
     rw [e0]
     go_enter Tryz.func58, Tryz.ntmps58
     go_wp2_with fail
     go_ret
     exact ⟨rfl, _, rfl⟩
 · have e0 : thB room pc = false := by simp [thB, h1]
   rw [e0]
   go_enter Tryz.func58, Tryz.ntmps58
   go_wp2_with fail
   go_ret
   exact ⟨rfl, _, rfl⟩
theorem wrap_pow (n : Nat) : IntKind.u64.wrap (2 ^ (n % 64)) = ((2 ^ (n % 64) : Nat) : Int) := by
 rw [IntKind.wrap_u64]
 have h : 2 ^ (n % 64) < 2 ^ 64 := Nat.pow_lt_pow_right (by omega) (Nat.mod_lt _ (by omega))
 have e : ((2 : Int) ^ (n % 64)) = ((2 ^ (n % 64) : Nat) : Int) := by simp
 rw [e]
 generalize 2 ^ (n % 64) = m at *
 omega
theorem bitOf_any (n : Nat) (w : World) (hn : n < 2000000) : Calls Tryz.prog 59 #[.int .i64 n] w fun e w' => e = .returned (.int .u64 (2 ^ (n % 64) : Nat)) ∧ w' = w := by
 have hw := wrap_pow n
 go_enter Tryz.func59, Tryz.ntmps59
 go_wp2_with fail
 rw [hw]
 go_ret
 exact ⟨rfl, rfl⟩
theorem test_and (x k : Nat) : Nat.testBit x k = (((x &&& 2 ^ k : Nat) : Int) != 0) := by
 cases h : x.testBit k with
 | true =>
   have : x &&& 2 ^ k ≠ 0 := by
     intro e
     have := congrArg (fun y => Nat.testBit y k) e
     simp [Nat.testBit_and, h, Nat.testBit_two_pow_self] at this
   generalize x &&& 2 ^ k = y at *
   have : ¬ (y : Int) = 0 := by omega
   simpa using this
 | false =>
   have : x &&& 2 ^ k = 0 := by
     apply Nat.eq_of_testBit_eq
     intro j
     rw [Nat.testBit_and, Nat.zero_testBit]
     by_cases hj : k = j
     · subst hj; rw [h]; rfl
     · rw [Nat.testBit_two_pow_of_ne hj, Bool.and_false]
   rw [this]
   rfl
theorem SIn.word {w : World} {X room n : Nat} {s : Nat → Bool} (h : SIn w X room s) (hn : n < room) : ∃ x : Nat, x < 18446744073709551616 ∧ w.cell? ⟨X, n / 64, none⟩ = some (.int .u64 x) ∧ s n = Nat.testBit x (n % 64) := by
 obtain ⟨W, h1, h2, h3, h4⟩ := h
 have hlt : n / 64 < W.length := by rw [h1]; omega
 refine ⟨W[n / 64], h3 _ (List.getElem_mem hlt), ?_, ?_⟩
 · rw [h2.2.1]
   simp [hlt]
 · rw [h4 n hn]
   simp [hlt]
theorem SIn.lt {w : World} {X room : Nat} {s : Nat → Bool} (h : SIn w X room s) : X < w.heap.size := by
 obtain ⟨W, h1, h2, h3, h4⟩ := h
 exact h2.1
theorem SIn.fr {w : World} {X room : Nat} {s : Nat → Bool} (h : SIn w X room s) (o : Nat) : w.frozen? ⟨X, o, none⟩ = false := by
 obtain ⟨W, h1, h2, h3, h4⟩ := h
 exact h2.2.2 o
theorem at_below {w w1 : World} {B k : Nat} {cs : Array Value} (h : At w k cs) (hb : Below B w w1) (hk : k < B) : At w1 k cs :=
 ⟨Nat.lt_of_lt_of_le h.1 hb.size, fun o => (hb.cell (p := ⟨k, o, none⟩) hk).trans (h.2.1 o), fun o => (hb.frozen (p := ⟨k, o, none⟩) hk).trans (h.2.2 o)⟩
theorem SIn.below {w w1 : World} {B X room : Nat} {s : Nat → Bool} (h : SIn w X room s) (hb : Below B w w1) (hk : X < B) : SIn w1 X room s := by
 obtain ⟨W, h1, h2, h3, h4⟩ := h
 exact ⟨W, h1, at_below h2 hb hk, h3, h4⟩
theorem quo64 (n : Nat) (hn : n < 2000000) : IntKind.i64.wrap ((n : Int) / 64) = ((n / 64 : Nat) : Int) := by rw [IntKind.wrap_i64]; omega
theorem has_any (X room n : Nat) (s : Nat → Bool) (w : World) (h : SIn w X room s) (hr : room < 2000000) (hn : n < room) :
   Calls Tryz.prog 33 #[sv X room, .int .i64 n] w fun e w' => e = .returned (.bool (s n)) ∧ Below w.heap.size w w' := by
 have hM := mayHave_any X room n
 have hX := h.lt
 obtain ⟨x, x1, x2, x3⟩ := h.word hn
 have hB := fun W => bitOf_any n W (by omega)
 have e1 : thB room n = true := by simp [thB]; omega
 rw [e1] at hM
 simp only [x3, test_and]
 have hb := u64_and_nat x (2 ^ (n % 64)) x1 (Nat.pow_lt_pow_right (m := n % 64) (n := 64) (by omega) (Nat.mod_lt _ (by omega)))
 have hnw : ((n / 64 : Nat) : Int) < (((room + 63) / 64 : Nat) : Int) := by omega
 have hq := quo64 n (by omega)
 unfold sv at *
 generalize (room + 63) / 64 = nw at *
 generalize 2 ^ (n % 64) = bt at *
 generalize n / 64 = q at *
 replace h := Hid.mk h
 replace hM := Hid.mk hM
 replace hB := Hid.mk hB
 replace x3 := Hid.mk x3
 go_enter Tryz.func33, Tryz.ntmps33
 go_wp2_with fail
 go_region_held3 (fun W => W.cell? ⟨w.heap.size, 0, none⟩ = some (.slice (some ⟨X, 0, none⟩) nw nw) ∧ W.cell? ⟨w.heap.size, 1, none⟩ = some (.int .i64 room) ∧ W.cell? ⟨X, q, none⟩ = some (.int .u64 x)) (simp [go_sem, *]) (first | (go_at_call 58; refine (hM.out _).mono ?_; rintro x w1 ⟨rfl, o, rfl⟩) | (go_at_call 59; refine (hB.out _).mono ?_; rintro x w1 ⟨rfl, rfl⟩))
 all_goals
   go_wp2_with fail
   go_ret
   exact ⟨rfl, by (repeat (first | assumption | with_reducible exact Below.refl _ _ | with_reducible refine Below.alloc ?_ (by simp <;> omega) _ | with_reducible refine Below.setCell ?_ (by simp <;> omega) _ | with_reducible refine Below.drew ?_))⟩
def adB (room : Nat) (s : Nat → Bool) (pc : Int) : Bool := thB room pc && !s pc.toNat
def adS (s : Nat → Bool) (pc : Int) : Nat → Bool := fun n => s n || decide ((n : Int) = pc)
theorem SIn.same {w : World} {X room : Nat} {s s' : Nat → Bool} (h : SIn w X room s) (e : ∀ n, n < room → s' n = s n) : SIn w X room s' := by
 obtain ⟨W, h1, h2, h3, h4⟩ := h
 exact ⟨W, h1, h2, h3, fun n hn => (e n hn).trans (h4 n hn)⟩
theorem SIn.put {w : World} {X room n x : Nat} {s : Nat → Bool} (h : SIn w X room s) (hn : n < room) (hx : w.cell? ⟨X, n / 64, none⟩ = some (.int .u64 x)) : SIn (w.setCell ⟨X, n / 64, none⟩ (.int .u64 ((x ||| 2 ^ (n % 64) : Nat) : Int))) X room (adS s n) := by
 obtain ⟨W, h1, h2, h3, h4⟩ := h
 have hlt : n / 64 < W.length := by rw [h1]; omega
 have e0 : x = W[n / 64] := by
   rw [h2.2.1] at hx
   simp [hlt] at hx
   omega
 have hx' : x < 18446744073709551616 := by rw [e0]; exact h3 _ (List.getElem_mem hlt)
 have hp : 2 ^ (n % 64) < 2 ^ 64 := Nat.pow_lt_pow_right (by omega) (Nat.mod_lt _ (by omega))
 have ho : x ||| 2 ^ (n % 64) < 2 ^ 64 := Nat.or_lt_two_pow hx' hp
 refine ⟨W.set (n / 64) (x ||| 2 ^ (n % 64)), by simp [h1], ?_, fun y hy => ?_, fun m hm => ?_⟩
 · have := h2.set (n / 64) (.int .u64 ((x ||| 2 ^ (n % 64) : Nat) : Int)) (by simpa using hlt)
   simpa [List.map_set] using this
 · rcases List.mem_or_eq_of_mem_set hy with r | r
   · exact h3 y r
   · rw [r]; exact ho
 · unfold adS
   rw [h4 m hm]
   by_cases hq : m / 64 = n / 64
   · rw [hq]
     simp only [List.getElem?_set_self hlt, Option.getD_some, Nat.testBit_or, Nat.testBit_two_pow, List.getElem?_eq_getElem hlt, ← e0]
     congr 1
     rw [decide_eq_decide]
     omega
   · rw [List.getElem?_set_ne (fun q => hq q.symm)]
     have : ¬ (m : Int) = n := by omega
     simp [this]
theorem add_any (X room : Nat) (s : Nat → Bool) (pc : Int) (w : World) (h : SIn w X room s) (hr : room < 2000000) :
   Calls Tryz.prog 30 #[sv X room, .int .i64 pc] w fun e w' => e = .returned (.bool (adB room s pc)) ∧ SIn w' X room (adS s pc) ∧ Kp (fun k => k = X) w w' := by
 have hM := mayHave_any X room pc
 have hX := h.lt
 cases e0 : thB room pc with
 | false =>
   rw [e0] at hM
   have e1 : adB room s pc = false := by simp [adB, e0]
   rw [e1]
   have hS : ∀ W, Below w.heap.size w W → SIn W X room (adS s pc) ∧ Kp (fun k => k = X) w W := fun W q => by
     refine ⟨(h.below q hX).same (fun n hn => ?_), Kp.of_below q⟩
     have : ¬ (n : Int) = pc := by
       intro r
       subst r
       simp [thB] at e0
       omega
     simp [adS, this]
   unfold sv at *
   generalize (room + 63) / 64 = nw at *
   replace h := Hid.mk h
   replace hM := Hid.mk hM
   replace hS := Hid.mk hS
   go_enter Tryz.func30, Tryz.ntmps30
   go_wp2_with (go_at_call 58; refine (hM.out _).mono ?_; rintro x w1 ⟨rfl, o, rfl⟩)
   go_ret
   exact ⟨rfl, hS.out _ (by (repeat (first | assumption | with_reducible exact Below.refl _ _ | with_reducible refine Below.alloc ?_ (by simp <;> omega) _ | with_reducible refine Below.setCell ?_ (by simp <;> omega) _ | with_reducible refine Below.drew ?_)))⟩
 | true =>
   simp only [thB, Bool.and_eq_true, decide_eq_true_eq] at e0
   obtain ⟨n, rfl⟩ := Int.eq_ofNat_of_zero_le e0.1
   have hn : n < room := by omega
   have e1 : thB room n = true := by simp [thB]; omega
   rw [e1] at hM
   have hH := fun W (q : Below w.heap.size w W) => has_any X room n s W (h.below q hX) hr hn
   cases e2 : s n with
   | true =>
     have e3 : adB room s n = false := by simp [adB, e2]
     rw [e3]
     rw [e2] at hH
     have hS : ∀ W, Below w.heap.size w W → SIn W X room (adS s n) ∧ Kp (fun k => k = X) w W := fun W q => by
       refine ⟨(h.below q hX).same (fun m hm => ?_), Kp.of_below q⟩
       by_cases r : m = n
       · subst r; simp [adS, e2]
       · have : ¬ (m : Int) = n := by omega
         simp [adS, this]
     unfold sv at *
     generalize (room + 63) / 64 = nw at *
     replace h := Hid.mk h
     replace hM := Hid.mk hM
     replace hH := Hid.mk hH
     replace hS := Hid.mk hS
     go_enter Tryz.func30, Tryz.ntmps30
     go_wp2_with (first | (go_at_call 58; refine (hM.out _).mono ?_; rintro x w1 ⟨rfl, o, rfl⟩) | (go_at_call 33; refine (hH.out _ (by (repeat (first | assumption | with_reducible exact Below.refl _ _ | with_reducible refine Below.alloc ?_ (by simp <;> omega) _ | with_reducible refine Below.setCell ?_ (by simp <;> omega) _ | with_reducible refine Below.drew ?_)))).mono ?_; rintro x w1 ⟨rfl, q1⟩; have Q1 : Below w.heap.size w w1 := Below.trans (by (repeat (first | assumption | with_reducible exact Below.refl _ _ | with_reducible refine Below.alloc ?_ (by simp <;> omega) _ | with_reducible refine Below.setCell ?_ (by simp <;> omega) _ | with_reducible refine Below.drew ?_))) (q1.mono (by simp <;> omega))))
     go_ret
     exact ⟨rfl, hS.out _ Q1⟩
   | false =>
     have e3 : adB room s n = true := by simp [adB, e2, e1]
     rw [e3]
     rw [e2] at hH
     obtain ⟨x, x1, x2, x3⟩ := h.word hn
     have hB := fun W => bitOf_any n W (by omega)
     have hp : 2 ^ (n % 64) < 18446744073709551616 := Nat.pow_lt_pow_right (m := n % 64) (n := 64) (by omega) (Nat.mod_lt _ (by omega))
     have hb := u64_or_nat x (2 ^ (n % 64)) x1 hp
     have hnw : ((n / 64 : Nat) : Int) < (((room + 63) / 64 : Nat) : Int) := by omega
     have hq := quo64 n (by omega)
     have hS : ∀ W, Below w.heap.size w W → SIn (W.setCell ⟨X, n / 64, none⟩ (.int .u64 ((x ||| 2 ^ (n % 64) : Nat) : Int))) X room (adS s n) ∧ Kp (fun k => k = X) w (W.setCell ⟨X, n / 64, none⟩ (.int .u64 ((x ||| 2 ^ (n % 64) : Nat) : Int))) := fun W q =>
       ⟨(h.below q hX).put hn ((q.cell (p := ⟨X, n / 64, none⟩) hX).trans x2), (Kp.of_below q).trans (Kp.set (S := fun k => k = X) W _ _ rfl) (fun k r => .inl r)⟩
     have hC : ∀ W, Below w.heap.size w W → W.cell? ⟨X, n / 64, none⟩ = some (.int .u64 x) ∧ (∀ o, W.frozen? ⟨X, o, none⟩ = false) := fun W q => ⟨(q.cell (p := ⟨X, n / 64, none⟩) hX).trans x2, fun o => (q.frozen (p := ⟨X, o, none⟩) hX).trans (h.fr o)⟩
     unfold sv at *
     generalize (room + 63) / 64 = nw at *
     generalize 2 ^ (n % 64) = bt at *
     generalize n / 64 = q at *
     replace h := Hid.mk h
     replace hM := Hid.mk hM
     replace hH := Hid.mk hH
     replace hS := Hid.mk hS
     replace hC := Hid.mk hC
     replace hB := Hid.mk hB
     clear x2 x3
     go_enter Tryz.func30, Tryz.ntmps30
     go_wp2_with (first | (go_at_call 58; refine (hM.out _).mono ?_; rintro x w1 ⟨rfl, o, rfl⟩) | (go_at_call 33; refine (hH.out _ (by (repeat (first | assumption | with_reducible exact Below.refl _ _ | with_reducible refine Below.alloc ?_ (by simp <;> omega) _ | with_reducible refine Below.setCell ?_ (by simp <;> omega) _ | with_reducible refine Below.drew ?_)))).mono ?_; rintro x w1 ⟨rfl, q1⟩; have Q1 : Below (w.heap.size + 1) (w.alloc (.cells #[.slice (some ⟨X, 0, none⟩) nw nw, .int .i64 room] 94)) w1 := Below.trans (by (repeat (first | assumption | with_reducible exact Below.refl _ _ | with_reducible refine Below.alloc ?_ (by simp <;> omega) _ | with_reducible refine Below.setCell ?_ (by simp <;> omega) _ | with_reducible refine Below.drew ?_))) (q1.mono (by simp <;> omega))))
     have A1 := at_below (At.new w #[.slice (some ⟨X, 0, none⟩) nw nw, .int .i64 room] 94) Q1 (Nat.lt_succ_self _)
     have Q2 : Below w.heap.size w w1 := ((Below.refl _ w).alloc (Nat.le_refl _) _).trans (Q1.mono (by omega))
     have z0 : w1.cell? ⟨w.heap.size, 0, none⟩ = some (.slice (some ⟨X, 0, none⟩) nw nw) := A1.2.1 0
     have zl := A1.1
     obtain ⟨c1, c2⟩ := hC.out w1 Q2
     have hX' : X < w1.heap.size := Nat.lt_of_lt_of_le hX Q2.size
     replace Q1 := Hid.mk Q1
     replace Q2 := Hid.mk Q2
     replace A1 := Hid.mk A1
     go_region_with (go_at_call 59; refine (hB.out _).mono ?_; rintro x w2 ⟨rfl, rfl⟩)
     all_goals
       go_wp2_with fail
       go_ret
       exact ⟨rfl, hS.out w1.drew Q2.out.drew⟩
end F
end Go.Proofs.YtfidlchgmgmcbaaGreatDoor


namespace Go.Proofs.YtfidlchgmgmcbaaGreatDoor
set_option maxRecDepth 100000
set_option maxHeartbeats 40000000
namespace F
open Go.RowKit
open T

theorem SIn.new (w : World) (room : Nat) : SIn (w.alloc (.cells (Array.replicate ((room + 63) / 64) (.int .u64 0)) 33)) w.heap.size room (fun _ => false) := by
 refine ⟨List.replicate ((room + 63) / 64) 0, by simp, ?_, fun x hx => ?_, fun n hn => ?_⟩
 · have := At.new w (Array.replicate ((room + 63) / 64) (.int .u64 0)) 33
   simpa using this
 · rw [List.eq_of_mem_replicate hx]; omega
 · rw [List.getElem?_replicate]
   split <;> simp
theorem info_parts' {t : TypeId} {z : Value} {s b : Nat} (h : (Tryz.prog.info? t).map (fun i => (i.zero, i.size, i.bytes)) = some (some z, s, b)) :
   ∃ i, Tryz.prog.info? t = some i ∧ i.zero = some z ∧ i.size = s ∧ i.bytes = b := by
 obtain ⟨i, hi, he⟩ := Option.map_eq_some_iff.1 h
 simp only [Prod.mk.injEq] at he
 exact ⟨i, hi, he.1, he.2.1, he.2.2⟩
theorem made_one (z : Value) (n : Nat) : madeCells #[z] n = Array.replicate n z := by
 apply Array.ext_getElem?
 intro i
 simp only [madeCells, Array.getElem?_map, Array.getElem?_range, Array.getElem?_replicate]
 by_cases h : i < n
 · simp [h, Nat.mod_one]
 · simp [h]
theorem make_row {t e : TypeId} {z : Value} {b : Nat} (ht : Tryz.prog.underlying t = some (.slice e)) (hi : (Tryz.prog.info? e).map (fun i => (i.zero, i.size, i.bytes)) = some (some z, 1, b)) (hz : z.cells = #[z]) (hb : b ≤ 64) (n : Nat) (hn : n ≤ 2000000) (w : World) :
   (Instr.makeSlice t (.int .i64 n) (.int .i64 n)).run Tryz.prog w = .ok (.slice (some ⟨w.heap.size, 0, none⟩) n n) (w.alloc (.cells (Array.replicate n z) e)) := by
 obtain ⟨i0, hi0, hz0, hz1, hz2⟩ := info_parts' hi
 have hbb : (i0.bytes : Int) * (n : Int) ≤ 281474976710656 := by
   rw [hz2]
   have : b * n ≤ 64 * 2000000 := Nat.mul_le_mul hb hn
   have h : ((b * n : Nat) : Int) ≤ 281474976710656 := by omega
   rwa [Int.natCast_mul] at h
 have h := run_make (P := Tryz.prog) w t e i0 z ht hi0 hz0 .i64 .i64 n n (by omega) (by omega) hbb (by omega)
 rw [hz1, hz, Nat.mul_one, Int.toNat_natCast, made_one] at h
 exact h
theorem make_u64 (n : Nat) (hn : n ≤ 2000000) (w : World) : (Instr.makeSlice 27 (.int .i64 n) (.int .i64 n)).run Tryz.prog w = .ok (.slice (some ⟨w.heap.size, 0, none⟩) n n) (w.alloc (.cells (Array.replicate n (.int .u64 0)) 33)) :=
 make_row (b := 8) Tryz.underlying27 (by kernel_rfl) rfl (by decide) n hn w
theorem make_bools (n : Nat) (hn : n ≤ 2000000) (w : World) : (Instr.makeSlice 62 (.int .i64 n) (.int .i64 n)).run Tryz.prog w = .ok (.slice (some ⟨w.heap.size, 0, none⟩) n n) (w.alloc (.cells (Array.replicate n (.bool false)) 4)) :=
 make_row (b := 1) Tryz.underlying62 (by kernel_rfl) rfl (by decide) n hn w
theorem make_ints (n : Nat) (hn : n ≤ 2000000) (w : World) : (Instr.makeSlice 58 (.int .i64 n) (.int .i64 n)).run Tryz.prog w = .ok (.slice (some ⟨w.heap.size, 0, none⟩) n n) (w.alloc (.cells (Array.replicate n (.int .i64 0)) 3)) :=
 make_row (b := 8) Tryz.underlying58 (by kernel_rfl) rfl (by decide) n hn w
theorem newSet_any (room : Nat) (w : World) (hr : room < 2000000) :
   Calls Tryz.prog 29 #[.int .i64 room] w fun e w' => e = .returned (sv (w.heap.size + 1) room) ∧ SIn w' (w.heap.size + 1) room (fun _ => false) ∧ Below w.heap.size w w' ∧ w'.heap.size = w.heap.size + 2 := by
 have h3 : ((room : Int) + 64 - 1) / 64 = (((room + 63) / 64 : Nat) : Int) := by omega
 have h4 : (0 : Int) ≤ (((room + 63) / 64 : Nat) : Int) := by omega
 have hN := fun W => SIn.new W room
 have hm := make_u64 ((room + 63) / 64) (by omega)
 unfold sv
 generalize (room + 63) / 64 = nw at *
 replace hN := Hid.mk hN
 go_enter Tryz.func29, Tryz.ntmps29
 go_wp2_with fail
 have hN1 := hN.out (w.alloc (.cells #[.slice (some ⟨w.heap.size + 1, 0, none⟩) nw nw, .int .i64 room] 94))
 rw [World.size_alloc] at hN1
 simp [bodyPost, results, Tryz.results29, go_sem]
 exact ⟨hN1, by (repeat (first | assumption | with_reducible exact Below.refl _ _ | with_reducible refine Below.alloc ?_ (by simp <;> omega) _ | with_reducible refine Below.setCell ?_ (by simp <;> omega) _ | with_reducible refine Below.drew ?_))⟩
def FillAt (w0 : World) (X nw room : Nat) (w : World) (j : Nat) (wr : World) : Prop :=
 Hid (∃ W : List Nat, W.length = nw ∧ At wr X (W.map fun n : Nat => Value.int .u64 n).toArray ∧ (∀ x ∈ W, x < 18446744073709551616) ∧ (∀ k, k < j → W[k]? = some 18446744073709551615) ∧ Kp (fun k => k = X) w0 wr ∧ At wr w.heap.size #[.slice (some ⟨X, 0, none⟩) nw nw, .int .i64 room] ∧ w0.heap.size = w.heap.size)
theorem fill_any (X room : Nat) (s : Nat → Bool) (w : World) (h : SIn w X room s) (hr : room < 2000000) :
   Calls Tryz.prog 57 #[sv X room] w fun e w' => e = .returned (.tuple #[]) ∧ SIn w' X room (fun _ => true) ∧ Kp (fun k => k = X) w w' := by
 have hX := h.lt
 obtain ⟨W0, h1, h2, h3, h4⟩ := h
 unfold sv
 have hnw : (room + 63) / 64 ≤ 2000000 := by omega
 have hF : FillAt w X ((room + 63) / 64) room w 0 (w.alloc (.cells #[.slice (some ⟨X, 0, none⟩) ((room + 63) / 64) ((room + 63) / 64), .int .i64 room] 94)) :=
   Hid.mk ⟨W0, h1, h2.alloc _, h3, fun k hk => by omega, Kp.alloc _ _ _, At.new w _ _, rfl⟩
 have hE : ∀ wr, FillAt w X ((room + 63) / 64) room w ((room + 63) / 64) wr → SIn wr X room (fun _ => true) ∧ Kp (fun k => k = X) w wr := fun wr q => by
   obtain ⟨W, q1, q2, q3, q4, q5, q6, q7⟩ := q.out
   refine ⟨⟨W, q1, q2, q3, fun n hn => ?_⟩, q5⟩
   rw [q4 (n / 64) (by omega)]
   show true = Nat.testBit (2 ^ 64 - 1) (n % 64)
   rw [Nat.testBit_two_pow_sub_one]
   have := Nat.mod_lt n (show 0 < 64 by omega)
   simp [this]
 have hStep : ∀ j wr, FillAt w X ((room + 63) / 64) room w j wr → j < (room + 63) / 64 → (∃ y, wr.cell? ⟨X, j, none⟩ = some y) ∧ wr.frozen? ⟨X, j, none⟩ = false ∧ wr.cell? ⟨w.heap.size, 0, none⟩ = some (.slice (some ⟨X, 0, none⟩) ((room + 63) / 64) ((room + 63) / 64)) ∧ FillAt w X ((room + 63) / 64) room w (j + 1) (wr.setCell ⟨X, j, none⟩ (.int .u64 18446744073709551615)) := fun j wr q hj => by
   obtain ⟨W, q1, q2, q3, q4, q5, q6, q7⟩ := q.out
   have hjl : j < W.length := by omega
   refine ⟨⟨.int .u64 (W[j] : Nat), by rw [q2.2.1]; simp [hjl]⟩, q2.2.2 j, q6.2.1 0, Hid.mk ⟨W.set j 18446744073709551615, by simp [q1], ?_, fun x hx => ?_, fun k hk => ?_, q5.trans (Kp.set (S := fun k => k = X) wr _ _ rfl) (fun k r => .inl r), q6.set_other _ (by omega), q7⟩⟩
   · have := q2.set j (.int .u64 18446744073709551615) (by simpa using hjl)
     simpa [List.map_set] using this
   · rcases List.mem_or_eq_of_mem_set hx with r | r
     · exact q3 x r
     · rw [r]; omega
   · by_cases e : k = j
     · subst e; simp [hjl]
     · rw [List.getElem?_set_ne (fun r => e r.symm)]
       exact q4 k (by omega)
 clear h1 h2 h3 h4
 generalize (room + 63) / 64 = nw at *
 replace hE := Hid.mk hE
 replace hStep := Hid.mk hStep
 go_enter Tryz.func57, Tryz.ntmps57
 go_wp2_with fail
 go_loopw [6] (fun i wr => ∃ j : Nat, i = .int .i64 j ∧ j ≤ nw ∧ FillAt w X nw room w j wr) (fun i _ => nw - (intOf i).toNat)
 case atStart => exact ⟨0, rfl, by omega, hF⟩
 case round =>
   obtain ⟨j, rfl, hj, hI⟩ := hrel
   by_cases hlt : j < nw
   · obtain ⟨⟨y, s1⟩, s2, s3, s4⟩ := hStep.out j wr hI hlt
     have hi1 : (j : Int) < nw := by omega
     have hw1 : IntKind.i64.wrap ((j : Int) + 1) = ((j + 1 : Nat) : Int) := by rw [IntKind.wrap_i64]; omega
     go_wp2_with fail
     go_roundw
     all_goals first | exact ⟨j + 1, by simp, by omega, s4⟩ | (simp only [intOf]; omega)
   · have hi1 : ¬ (j : Int) < nw := by omega
     have ej : j = nw := by omega
     subst ej
     go_wp2_with fail
     go_end0
     exact ⟨rfl, hE.out _ hI⟩
def TruAt (w : World) (X nw room : Nat) (s : Nat → Bool) (j : Nat) (wr : World) : Prop :=
 Hid (Below w.heap.size w wr ∧ At wr w.heap.size #[.slice (some ⟨X, 0, none⟩) nw nw, .int .i64 room] ∧ w.heap.size + 1 < wr.heap.size ∧
   (∀ k, k < room → wr.cell? ⟨w.heap.size + 1, k, none⟩ = some (.bool (if k < j then s k else false))) ∧ (∀ k, room ≤ k → wr.cell? ⟨w.heap.size + 1, k, none⟩ = none) ∧ ∀ o, wr.frozen? ⟨w.heap.size + 1, o, none⟩ = false)
theorem truths_any (X room : Nat) (s : Nat → Bool) (w : World) (h : SIn w X room s) (hr : room < 2000000) :
   Calls Tryz.prog 28 #[sv X room] w fun e w' => ∃ g, e = .returned (.slice (some ⟨g, 0, none⟩) room room) ∧ w.heap.size ≤ g ∧ At w' g ((List.range room).map fun k => Value.bool (s k)).toArray ∧ Below w.heap.size w w' := by
 have hX := h.lt
 have hm := make_bools room (by omega)
 have hH := fun (k : Nat) (hk : k < room) W (q : Below w.heap.size w W) => has_any X room k s W (h.below q hX) hr hk
 unfold sv at *
 generalize (room + 63) / 64 = nw at *
 have h0 : TruAt w X nw room s 0 ((w.alloc (.cells #[.slice (some ⟨X, 0, none⟩) nw nw, .int .i64 room] 94)).alloc (.cells (Array.replicate room (.bool false)) 4)) := by
   have a2 := At.next w (.cells #[.slice (some ⟨X, 0, none⟩) nw nw, .int .i64 room] 94) (Array.replicate room (.bool false)) 4
   refine Hid.mk ⟨by (repeat (first | assumption | with_reducible exact Below.refl _ _ | with_reducible refine Below.alloc ?_ (by simp <;> omega) _ | with_reducible refine Below.setCell ?_ (by simp <;> omega) _ | with_reducible refine Below.drew ?_)), (At.new w _ _).alloc _, a2.1, fun k hk => ?_, fun k hk => ?_, a2.2.2⟩
   · rw [a2.2.1]; simp [hk]
   · rw [a2.2.1]; simp; omega
 have hE : ∀ wr, TruAt w X nw room s room wr → At wr (w.heap.size + 1) ((List.range room).map fun k => Value.bool (s k)).toArray ∧ Below w.heap.size w wr := fun wr q => by
   obtain ⟨q1, q2, q3, q4, q5, q6⟩ := q.out
   refine ⟨⟨q3, fun o => ?_, q6⟩, q1⟩
   by_cases ho : o < room
   · rw [q4 o ho]; simp [ho]
   · rw [q5 o (by omega), eq_comm, List.getElem?_toArray, List.getElem?_eq_none (by simp; omega)]
 have hS : ∀ j wr w1, TruAt w X nw room s j wr → j < room → Below wr.heap.size wr w1 → TruAt w X nw room s (j + 1) (w1.setCell ⟨w.heap.size + 1, j, none⟩ (.bool (s j))) := fun j wr w1 q hj hb => by
   obtain ⟨q1, q2, q3, q4, q5, q6⟩ := q.out
   have hsz := q1.size
   have hsb := hb.size
   refine Hid.mk ⟨(q1.trans (hb.mono hsz)).setCell (by simp) _, (at_below q2 hb q2.1).set_other _ (by omega), by simpa using Nat.lt_of_lt_of_le q3 hsb, fun k hk => ?_, fun k hk => ?_, fun o => by simpa using (hb.frozen (p := ⟨w.heap.size + 1, o, none⟩) q3).trans (q6 o)⟩
   · by_cases e : k = j
     · subst e
       rw [World.cell?_setCell_same _ _ _ ((hb.cell (p := ⟨w.heap.size + 1, k, none⟩) q3).trans (q4 k hk)), if_pos (by omega)]
     · rw [cso (fun _ r => e r.symm), hb.cell (p := ⟨w.heap.size + 1, k, none⟩) q3, q4 k hk]
       by_cases e2 : k < j
       · rw [if_pos e2, if_pos (by omega)]
       · rw [if_neg e2, if_neg (by omega)]
   · rw [cso (fun _ r => by omega), hb.cell (p := ⟨w.heap.size + 1, k, none⟩) q3, q5 k hk]
 have hC : ∀ j wr, TruAt w X nw room s j wr → j < room → (∃ y, wr.cell? ⟨w.heap.size + 1, j, none⟩ = some y) ∧ wr.frozen? ⟨w.heap.size + 1, j, none⟩ = false ∧ wr.cell? ⟨w.heap.size, 0, none⟩ = some (.slice (some ⟨X, 0, none⟩) nw nw) ∧ wr.cell? ⟨w.heap.size, 1, none⟩ = some (.int .i64 room) ∧ Below w.heap.size w wr ∧ w.heap.size + 1 < wr.heap.size := fun j wr q hj => by
   obtain ⟨q1, q2, q3, q4, q5, q6⟩ := q.out
   exact ⟨⟨_, q4 j hj⟩, q6 j, q2.2.1 0, q2.2.1 1, q1, q3⟩
 replace h := Hid.mk h
 replace hH := Hid.mk hH
 replace hE := Hid.mk hE
 replace hS := Hid.mk hS
 replace hC := Hid.mk hC
 go_enter Tryz.func28, Tryz.ntmps28
 go_wp2_with fail
 go_loopw [10] (fun i wr => ∃ j : Nat, i = .int .i64 j ∧ j ≤ room ∧ TruAt w X nw room s j wr) (fun i _ => room - (intOf i).toNat)
 case atStart => exact ⟨0, rfl, by omega, h0⟩
 case round =>
   obtain ⟨j, rfl, hj, hI⟩ := hrel
   by_cases hlt : j < room
   · obtain ⟨⟨y, s1⟩, s2, s3, s4, s5, s6⟩ := hC.out j wr hI hlt
     have hi1 : (j : Int) < room := by omega
     replace s5 := Hid.mk s5
     go_wp2_with (go_at_call 33; refine (hH.out j hlt _ s5.out).mono ?_; rintro x w1 ⟨rfl, q1⟩; have c1 := (q1.cell (p := ⟨w.heap.size + 1, j, none⟩) s6).trans s1; have c2 := (q1.frozen (p := ⟨w.heap.size + 1, j, none⟩) s6).trans s2; have c3 := Hid.mk (hS.out j wr w1 hI hlt q1); replace q1 := Hid.mk q1)
     go_roundw
     all_goals first | exact ⟨j + 1, by simp, by omega, c3.out⟩ | (simp only [intOf]; omega)
   · have hi1 : ¬ (j : Int) < room := by omega
     have ej : j = room := by omega
     subst ej
     go_wp2_with fail
     go_ret
     exact ⟨_, rfl, by simp, (hE.out _ hI).1, (hE.out _ hI).2⟩
end F
end Go.Proofs.YtfidlchgmgmcbaaGreatDoor


namespace Go.Proofs.YtfidlchgmgmcbaaGreatDoor
namespace F
open Go.RowKit
open T

def cnt : Nat → (Nat → Bool) → Nat
 | 0, _ => 0
 | n + 1, s => cnt n s + if s n then 1 else 0
theorem cnt_le (n : Nat) (s : Nat → Bool) : cnt n s ≤ n := by
 induction n with
 | zero => exact Nat.le_refl _
 | succ n ih => unfold cnt; split <;> omega
theorem cnt_mono (n : Nat) {s s' : Nat → Bool} (h : ∀ q, q < n → s q = true → s' q = true) : cnt n s ≤ cnt n s' := by
 induction n with
 | zero => exact Nat.le_refl _
 | succ n ih =>
   have := ih (fun q hq => h q (by omega))
   have h1 := h n (by omega)
   unfold cnt
   cases e : s n
   · simp only [Bool.false_eq_true, if_false]; split <;> omega
   · rw [h1 e]; simp; exact this
theorem cnt_congr (n : Nat) {s s' : Nat → Bool} (h : ∀ q, q < n → s q = s' q) : cnt n s = cnt n s' := by
 induction n with
 | zero => rfl
 | succ n ih =>
   unfold cnt
   rw [ih (fun q hq => h q (by omega)), h n (by omega)]
theorem cnt_add (n p : Nat) (s : Nat → Bool) (hp : p < n) (h : s p = false) : cnt n (adS s p) = cnt n s + 1 := by
 induction n with
 | zero => omega
 | succ n ih =>
   unfold cnt
   by_cases e : p = n
   · subst e
     have : cnt p (adS s p) = cnt p s := cnt_congr p (fun q hq => by
       have : ¬ (q : Int) = p := by omega
       simp [adS, this])
     rw [this, h]
     simp [adS]
   · rw [ih (by omega)]
     have : ¬ (n : Int) = p := by omega
     simp [adS, this]
     omega
def wyF (wy m : Int) (p q : Nat) : Bool := if wy = 4 then false else if wy = 3 then true else if wy = 1 then decide ((q : Int) = m) else if wy = 2 then decide ((q : Int) = m) || decide (q = p + 1) else decide (q = p + 1)
def folB (L : List Ins) (p q : Nat) : Bool := decide (q < L.length) && match L[p]? with | none => false | some k => wyF (wayN k.op) k.m p q
inductive Rch (L : List Ins) (E : List Int) (out : Int) : Nat → Prop
 | base {q : Nat} : (q : Int) ∈ E → q < L.length → (q : Int) ≠ out → Rch L E out q
 | step {p q : Nat} : Rch L E out p → folB L p q = true → (q : Int) ≠ out → Rch L E out q
theorem folB_lt {L : List Ins} {p q : Nat} (h : folB L p q = true) : q < L.length := by
 simp [folB] at h; exact h.1
theorem folB_lt' {L : List Ins} {p q : Nat} (h : folB L p q = true) : p < L.length := by
 simp only [folB, Bool.and_eq_true] at h
 rcases Nat.lt_or_ge p L.length with e | e
 · exact e
 · rw [List.getElem?_eq_none e] at h
   simp at h
theorem Rch.lt {L : List Ins} {E : List Int} {out : Int} {q : Nat} (h : Rch L E out q) : q < L.length := by
 cases h with
 | base _ h _ => exact h
 | step _ h _ => exact folB_lt h
theorem Rch.ne {L : List Ins} {E : List Int} {out : Int} {q : Nat} (h : Rch L E out q) : (q : Int) ≠ out := by
 cases h with
 | base _ _ h => exact h
 | step _ _ h => exact h
def Clo (L : List Ins) (out : Int) (R : Nat → Prop) : Prop := ∀ p q, R p → folB L p q = true → (q : Int) ≠ out → R q
structure Wk (L : List Ins) (out : Int) (s : Nat → Bool) (pc : Int) (s1 : Nat → Bool) (D : List Int) (pc1 : Int) : Prop where
 mono : ∀ q, q < L.length → s q = true → s1 q = true
 cov : thB L.length pc = true → s1 pc.toNat = true ∨ pc ∈ D ∨ pc = pc1
 clo : ∀ p q, s1 p = true → s p = false → folB L p q = true → s1 q = true ∨ (q : Int) ∈ D ∨ (q : Int) = pc1
 snd : ∀ R : Nat → Prop, Clo L out R → (thB L.length pc = true → pc ≠ out → R pc.toNat) →
   (∀ q, q < L.length → s1 q = true → s q = true ∨ R q) ∧ (∀ d ∈ D, thB L.length d = true → d ≠ out → R d.toNat) ∧ (thB L.length pc1 = true → pc1 ≠ out → R pc1.toNat)
 ct : D.length + cnt L.length s ≤ cnt L.length s1
structure Wf (L : List Ins) (out : Int) (dp : Nat) (s : Nat → Bool) (pc : Int) (s1 : Nat → Bool) (D : List Int) : Prop where
 mono : ∀ q, q < L.length → s q = true → s1 q = true
 cov : thB L.length pc = true → s1 pc.toNat = true ∨ pc ∈ D
 clo : ∀ p q, s1 p = true → s p = false → folB L p q = true → s1 q = true ∨ (q : Int) ∈ D
 snd : ∀ R : Nat → Prop, Clo L out R → (thB L.length pc = true → pc ≠ out → R pc.toNat) →
   (∀ q, q < L.length → s1 q = true → s q = true ∨ R q) ∧ (∀ d ∈ D, thB L.length d = true → d ≠ out → R d.toNat)
 ct : D.length + cnt L.length s ≤ cnt L.length s1 + dp
theorem thB_nat {n q : Nat} : thB n (q : Int) = true ↔ q < n := by simp [thB]
theorem thB_elim {n : Nat} {pc : Int} (h : thB n pc = true) : ∃ q : Nat, pc = q ∧ q < n := by
 simp [thB] at h
 exact ⟨pc.toNat, by omega, by omega⟩
theorem Wf.deep (L : List Ins) (out : Int) (s : Nat → Bool) (pc : Int) : Wf L out 1 s pc s [pc] :=
 ⟨fun _ _ h => h, fun _ => .inr (by simp), fun p q h1 h2 _ => (by rw [h1] at h2; exact absurd h2 (by simp)),
  fun R _ h0 => ⟨fun q _ h => .inl h, fun d hd => by rw [List.mem_singleton.1 hd]; exact h0⟩, by simp; omega⟩
theorem Wk.start (L : List Ins) (out : Int) (s : Nat → Bool) (pc : Int) : Wk L out s pc s [] pc :=
 ⟨fun _ _ h => h, fun _ => .inr (.inr rfl), fun p q h1 h2 _ => (by rw [h1] at h2; exact absurd h2 (by simp)),
  fun R _ h0 => ⟨fun q _ h => .inl h, fun d hd => by simp at hd, h0⟩, by simp⟩
theorem Wk.stop {L : List Ins} {out : Int} {s s1 s2 : Nat → Bool} {pc pc1 : Int} {D : List Int} (h : Wk L out s pc s1 D pc1) (hs : adB L.length s1 pc1 = false) (hs2 : s2 = adS s1 pc1) (dp : Nat) : ∃ s3, Wf L out dp s pc s3 D ∧ ∀ q, q < L.length → s2 q = s3 q := by
 have hc : thB L.length pc1 = true → s1 pc1.toNat = true := by
   intro e
   simp only [adB, e, Bool.true_and, Bool.not_eq_false'] at hs
   exact hs
 refine ⟨s1, ⟨h.mono, fun e => ?_, fun p q h1 h2 h3 => ?_, fun R r1 r2 => ⟨(h.snd R r1 r2).1, (h.snd R r1 r2).2.1⟩, by have := h.ct; omega⟩, fun q hq => ?_⟩
 · rcases h.cov e with r | r | r
   · exact .inl r
   · exact .inr r
   · subst r; exact .inl (hc e)
 · rcases h.clo p q h1 h2 h3 with r | r | r
   · exact .inl r
   · exact .inr r
   · refine .inl ?_
     have := hc (by rw [← r, thB_nat]; exact folB_lt h3)
     rw [← r] at this
     simpa using this
 · subst hs2
   unfold adS
   by_cases e : (q : Int) = pc1
   · have := hc (by rw [← e, thB_nat]; exact hq)
     rw [← e] at this
     simp at this
     rw [this]; rfl
   · simp [e]
theorem Wk.snd1 {L : List Ins} {out : Int} {s s1 : Nat → Bool} {pc : Int} {p : Nat} {D : List Int} (h : Wk L out s pc s1 D p) (hp : p < L.length) (hs : s1 p = false) (ho : thB L.length out = true → s out.toNat = true) : (p : Int) ≠ out := by
 intro e
 subst e
 have := h.mono p hp (by simpa using ho (thB_nat.2 hp))
 rw [hs] at this
 cases this
theorem Wk.ends {L : List Ins} {out : Int} {s s1 : Nat → Bool} {pc : Int} {p : Nat} {D : List Int} (h : Wk L out s pc s1 D p) (hp : p < L.length) (hs : s1 p = false) (ho : thB L.length out = true → s out.toNat = true) (hw : wayN (L[p]).op = 4) (dp : Nat) : Wf L out dp s pc (adS s1 p) D := by
 have hne := h.snd1 hp hs ho
 refine ⟨fun q hq e => by simp [adS, h.mono q hq e], fun e => ?_, fun p' q h1 h2 h3 => ?_, fun R r1 r2 => ⟨fun q hq e => ?_, (h.snd R r1 r2).2.1⟩, ?_⟩
 · rcases h.cov e with r | r | r
   · exact .inl (by simp [adS, r])
   · exact .inr r
   · subst r; exact .inl (by simp [adS])
 · by_cases e : p' = p
   · subst e
     simp [folB, hp, wyF, hw] at h3
   · have h1' : s1 p' = true := by
       have : ¬ (p' : Int) = p := by omega
       simpa [adS, this] using h1
     rcases h.clo p' q h1' h2 h3 with r | r | r
     · exact .inl (by simp [adS, r])
     · exact .inr r
     · exact .inl (by simp [adS, r])
 · by_cases e2 : q = p
   · subst e2
     refine .inr ?_
     have := (h.snd R r1 r2).2.2 (thB_nat.2 hp) hne
     simpa using this
   · have : ¬ (q : Int) = p := by omega
     exact (h.snd R r1 r2).1 q hq (by simpa [adS, this] using e)
 · rw [cnt_add _ _ _ hp hs]
   have := h.ct
   omega
theorem Wk.any {L : List Ins} {out : Int} {s s1 : Nat → Bool} {pc : Int} {p : Nat} {D : List Int} (h : Wk L out s pc s1 D p) (hp : p < L.length) (hs : s1 p = false) (ho : thB L.length out = true → s out.toNat = true) (hw : wayN (L[p]).op = 3) (dp : Nat) : Wf L out dp s pc (fun _ => true) D := by
 have hne := h.snd1 hp hs ho
 refine ⟨fun _ _ _ => rfl, fun _ => .inl rfl, fun _ _ _ _ _ => .inl rfl, fun R r1 r2 => ⟨fun q hq _ => ?_, (h.snd R r1 r2).2.1⟩, ?_⟩
 · by_cases e : (q : Int) = out
   · refine .inl ?_
     have := ho (by rw [← e]; exact thB_nat.2 hq)
     rw [← e] at this
     simpa using this
   · refine .inr (r1 p q ?_ ?_ e)
     · have := (h.snd R r1 r2).2.2 (thB_nat.2 hp) hne
       simpa using this
     · simp [folB, hp, hq, wyF, hw]
 · have := h.ct
   have := cnt_mono L.length (s := s1) (s' := fun _ => true) (fun _ _ _ => rfl)
   omega
theorem Wk.on {L : List Ins} {out : Int} {s s1 s3 : Nat → Bool} {pc tt : Int} {p : Nat} {D D' : List Int} (h : Wk L out s pc s1 D p) (hp : p < L.length) (hs : s1 p = false) (ho : thB L.length out = true → s out.toNat = true)
   (h3 : ∀ q, q < L.length → adS s1 p q = true → s3 q = true)
   (hto : ∀ q, folB L p q = true → (q : Int) = tt ∨ s3 q = true ∨ (q : Int) ∈ D')
   (hfo : thB L.length tt = true → folB L p tt.toNat = true)
   (hcl : ∀ p' q, s3 p' = true → adS s1 p p' = false → folB L p' q = true → s3 q = true ∨ (q : Int) ∈ D')
   (hsn : ∀ R : Nat → Prop, Clo L out R → R p → (∀ q, q < L.length → s3 q = true → adS s1 p q = true ∨ R q) ∧ (∀ d ∈ D', thB L.length d = true → d ≠ out → R d.toNat))
   (hct : D'.length + cnt L.length (adS s1 p) ≤ cnt L.length s3 + 1) : Wk L out s pc s3 (D ++ D') tt := by
 have hne := h.snd1 hp hs ho
 refine ⟨fun q hq e => h3 q hq (by simp [adS, h.mono q hq e]), fun e => ?_, fun p' q h1 h2 hf => ?_, fun R r1 r2 => ?_, ?_⟩
 · obtain ⟨n, rfl, hn⟩ := thB_elim e
   rcases h.cov e with r | r | r
   · exact .inl (h3 _ (by simpa using hn) (by simp at r; simp [adS, r]))
   · exact .inr (.inl (by simp [r]))
   · have : n = p := by omega
     subst this
     exact .inl (h3 _ (by simpa using hn) (by simp [adS]))
 · have hq := folB_lt hf
   have hp' := folB_lt' hf
   by_cases e : p' = p
   · subst e
     rcases hto q hf with r | r | r
     · exact .inr (.inr r)
     · exact .inl r
     · exact .inr (.inl (by simp [r]))
   · have epp : ¬ (p' : Int) = p := by omega
     cases e1 : s1 p' with
     | true =>
       rcases h.clo p' q e1 h2 hf with r | r | r
       · exact .inl (h3 q hq (by simp [adS, r]))
       · exact .inr (.inl (by simp [r]))
       · exact .inl (h3 q hq (by simp [adS, r]))
     | false =>
       rcases hcl p' q h1 (by simp [adS, e1, epp]) hf with r | r
       · exact .inl r
       · exact .inr (.inl (by simp [r]))
 · have hR : R p := by
     have := (h.snd R r1 r2).2.2 (thB_nat.2 hp) hne
     simpa using this
   obtain ⟨g1, g2⟩ := hsn R r1 hR
   refine ⟨fun q hq e => ?_, fun d hd => ?_, fun e1 e2 => ?_⟩
   · rcases g1 q hq e with r | r
     · by_cases e2 : q = p
       · subst e2; exact .inr hR
       · have : ¬ (q : Int) = p := by omega
         exact (h.snd R r1 r2).1 q hq (by simpa [adS, this] using r)
     · exact .inr r
   · rcases List.mem_append.1 hd with r | r
     · exact (h.snd R r1 r2).2.1 d r
     · exact g2 d r
   · obtain ⟨n, rfl, hn⟩ := thB_elim e1
     exact r1 p n hR (by have := hfo e1; simpa using this) e2
 · rw [cnt_add _ _ _ hp hs] at hct
   have := h.ct
   rw [List.length_append]
   omega
end F
end Go.Proofs.YtfidlchgmgmcbaaGreatDoor


namespace Go.Proofs.YtfidlchgmgmcbaaGreatDoor
namespace C
open Go.RowKit
open T (Sep Ob Kp Mf TgIn boxOb Fm Tc Ed Vl Cp Bx tgOb mRow updV flt ofI)

section
variable {P : PImg} {n : Nat} {s s' : Ms}
def OnAt (L : List Ins) (op : Int) (p q : Nat) : Prop := (q = L.length ∧ p + 1 = L.length ∧ op ≠ 20) ∨ F.folB L p q = true
theorem at_next {L : List Ins} {p : Nat} {i : Ins} (hi : L[p]? = some i) (hw : F.wayN i.op = 0 ∨ F.wayN i.op = 2) : OnAt L i.op p (p + 1) := by
 have hp : p < L.length := (List.getElem?_eq_some_iff.1 hi).1
 have h20 : i.op ≠ 20 := fun q => by rw [q] at hw; revert hw; decide
 by_cases hl : p + 1 < L.length
 · right
   unfold F.folB
   rw [hi]
   rcases hw with hw | hw <;> simp [hl, hw, F.wyF]
 · exact .inl ⟨by omega, by omega, h20⟩
theorem at_to {L : List Ins} {p q : Nat} {i : Ins} (hi : L[p]? = some i) (hw : F.wayN i.op = 1 ∨ F.wayN i.op = 2) (hq : (q : Int) = i.m) (hl : q < L.length) : OnAt L i.op p q := by
 right
 unfold F.folB
 rw [hi]
 rcases hw with hw | hw <;> simp [hl, hw, F.wyF, hq]
theorem at_any {L : List Ins} {p q : Nat} {i : Ins} (hi : L[p]? = some i) (hw : F.wayN i.op = 3) (hl : q < L.length) : OnAt L i.op p q := by
 right
 unfold F.folB
 rw [hi]
 simp [hl, hw, F.wyF]
theorem way0 {op : Int} (h : op ≤ 13 ∨ op = 25 ∨ op = 29 ∨ op = 30 ∨ 33 ≤ op) : F.wayN op = 0 := by
 unfold F.wayN
 rw [if_neg (by omega), if_neg (by omega), if_neg (by omega), if_neg (by omega)]
theorem way2 {op : Int} (h : 21 ≤ op ∧ op ≤ 24) : F.wayN op = 2 := by
 unfold F.wayN
 rw [if_neg (by omega), if_pos (by omega)]
theorem tgt_lt {k q : Nat} {v : Vl} (h : tgtR P k v = .ok q) : q < (codeOf P k).length := by
 unfold tgtR at h
 split at h
 · split at h
   · split at h
     · rename_i z
       injection h with h
       have := (wrap64_in (v.c.c - codeBase k)).1
       unfold offC at z h
       omega
     · cases h
   · cases h
 · cases h
theorem step_flow (hP : POk P) {i : Ins} (hi : (codeOf P (kOf P s.at_.gate))[s.at_.pc]? = some i) (hc : i.op ≠ 31) (hr : i.op ≠ 32) (h : stepM P s = .ok s') : OnAt (codeOf P (kOf P s.at_.gate)) i.op s.at_.pc s'.at_.pc := by
 have hio := (hP.code (kOf P s.at_.gate)).2 i (List.mem_of_getElem? hi)
 have hop := hio.op
 unfold stepM at h
 rw [hi] at h
 simp only at h
 unfold insM at h
 split at h
 · obtain ⟨v, _, rfl⟩ := lay_ok h; exact at_next hi (.inl (way0 (by omega)))
 split at h
 · unfold strM at h
   split at h
   · rename_i q
     injection h with h; subst h
     have := hio.tg (by omega)
     exact at_to hi (.inl (by rw [q]; decide)) (show ((i.m.toNat : Nat) : Int) = i.m by omega) (show i.m.toNat < _ by omega)
   split at h
   · have hb : 21 ≤ i.op ∧ i.op ≤ 24 := by omega
     have := hio.tg (by omega)
     unfold braM at h
     split at h
     · cases h
     · split at h
       · cases h
       · injection h with h; subst h; split
         · exact at_to hi (.inr (way2 hb)) (show ((i.m.toNat : Nat) : Int) = i.m by omega) (show i.m.toNat < _ by omega)
         · exact at_next hi (.inr (way2 hb))
   split at h
   · injection h with h; subst h; exact at_next hi (.inl (way0 (by omega)))
   split at h
   · rename_i q
     unfold goR at h
     split at h
     · rename_i k hk
       injection h with h; subst h; exact at_any hi (by rw [q]; decide) (tgt_lt hk)
     · cases h
   split at h
   · unfold haltM at h
     split at h <;> cases h
   split at h
   · cases h
   split at h
   · unfold inM at h
     split at h
     · cases h
     · injection h with h; subst h; exact at_next hi (.inl (way0 (by omega)))
   split at h
   · unfold outM at h
     split at h
     · cases h
     · injection h with h; subst h; exact at_next hi (.inl (way0 (by omega)))
   exfalso
   omega
 have hw : F.wayN i.op = 0 := way0 (by omega)
 split at h
 · obtain ⟨v, _, rfl⟩ := lay_ok h; exact at_next hi (.inl hw)
 split at h
 · obtain ⟨v, _, rfl⟩ := lay_ok h; exact at_next hi (.inl hw)
 split at h
 · have l1 : ∀ sz, loadM s i.a.toNat i.b.toNat i.m sz = .ok s' → s'.at_.pc = s.at_.pc + 1 := fun sz h => by
     unfold loadM at h
     split at h
     · cases h
     · split at h
       · injection h with h; subst h; rfl
       · cases h
   have l2 : ∀ sz, storeM s i.a.toNat i.b.toNat i.m sz = .ok s' → s'.at_.pc = s.at_.pc + 1 := fun sz h => by
     unfold storeM at h
     split at h
     · cases h
     · split at h
       · cases h
       · split at h
         · injection h with h; subst h; rfl
         · cases h
   have l3 : s'.at_.pc = s.at_.pc + 1 := by
     unfold touM at h
     split at h
     · exact l1 _ h
     split at h
     · exact l1 _ h
     split at h
     · exact l2 _ h
     split at h
     · exact l2 _ h
     split at h
     · unfold ldcM at h
       split at h
       · cases h
       · split at h
         · injection h with h; subst h; rfl
         · cases h
     · unfold stcM at h
       split at h
       · cases h
       · split at h
         · injection h with h; subst h; rfl
         · cases h
   rw [l3]
   exact at_next hi (.inl hw)
 · unfold grdR at h
   split at h
   · cases h
   · injection h with h; subst h; exact at_next hi (.inl hw)
   · cases h
end
end C
end Go.Proofs.YtfidlchgmgmcbaaGreatDoor
