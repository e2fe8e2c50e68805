import Derived.Test.YtmmakknhaacplaaGreatDoorP20
import Derived.Laws.BitsAllLaws
import Derived.Test.YtmmakknhaacplaaGreatDoorP15
/-
  Stage 4, image: the document's own answer: a capability, a type.
-/
namespace Go.Proofs.YtmmakknhaacplaaGreatDoor
open Go.RowKit

theorem cast_bit (a j : Nat) : ((a / 2 ^ j % 2 : Nat) : Int) = (a : Int) / 2 ^ j % 2 := by simp
theorem bit_cast (a j : Nat) : ((a : Int) / 2 ^ j % 2 = 1) ↔ a / 2 ^ j % 2 = 1 := by
  have := cast_bit a j
  omega
theorem pow_le7 (i : Nat) (h : i ≤ 7) : (2 : Int) ^ i ≤ 128 := by
  have : i = 0 ∨ i = 1 ∨ i = 2 ∨ i = 3 ∨ i = 4 ∨ i = 5 ∨ i = 6 ∨ i = 7 := by omega
  rcases this with rfl | rfl | rfl | rfl | rfl | rfl | rfl | rfl <;> decide
def HasUpto (p q : Int) (i : Nat) : Prop := ∀ j, j < i → q / 2 ^ j % 2 = 1 → p / 2 ^ j % 2 = 1

theorem andNot_iff (a b : Nat) (_ha : a < 256) (hb : b < 256) : a &&& (255 - b) = 0 ↔ ∀ j, j < 8 → a / 2 ^ j % 2 = 1 → b / 2 ^ j % 2 = 1 := by
  have hs : ∀ j, (255 - b).testBit j = (decide (j < 8) && !b.testBit j) := by
    intro j
    have := Nat.testBit_two_pow_sub_succ (x := b) (n := 8) (by simpa using hb) j
    simpa using this
  constructor
  · intro h j hj h1
    have ht : (a &&& (255 - b)).testBit j = false := by rw [h]; simp
    rw [Nat.testBit_and, hs] at ht
    simp only [Nat.testBit_eq_decide_div_mod_eq] at ht
    simpa [hj, h1] using ht
  · intro h
    apply Nat.eq_of_testBit_eq
    intro j
    rw [Nat.testBit_and, hs, Nat.zero_testBit]
    by_cases hj : j < 8
    · have := h j hj
      simp only [Nat.testBit_eq_decide_div_mod_eq]
      by_cases h1 : a / 2 ^ j % 2 = 1
      · simp [this h1]
      · simp [h1]
    · simp [hj]

theorem hasB_iff (p q : Int) (hp0 : 0 ≤ p) (hp1 : p < 256) (hq0 : 0 ≤ q) (hq1 : q < 256) : hasB p q = true ↔ HasUpto p q 8 := by
  obtain ⟨a, rfl⟩ := Int.eq_ofNat_of_zero_le hp0
  obtain ⟨b, rfl⟩ := Int.eq_ofNat_of_zero_le hq0
  unfold hasB HasUpto
  rw [u8_andNot_nat _ _ (by omega) (by omega)]
  have key := andNot_iff b a (by omega) (by omega)
  constructor
  · intro h j hj h1
    have h' : b &&& (255 - a) = 0 := by simpa using h
    exact (bit_cast a j).mpr (key.mp h' j hj ((bit_cast b j).mp h1))
  · intro h
    have : b &&& (255 - a) = 0 := key.mpr fun j hj h1 => (bit_cast a j).mp (h j hj ((bit_cast b j).mpr h1))
    simp [this]

theorem pow_small {i : Nat} {B : Int} (hi : i ≤ 8) (hB : B = 2 ^ i) (h : B ≤ 128) : i < 8 := by
  have : i ≠ 8 := by rintro rfl; subst hB; omega
  omega
theorem pow_great {i : Nat} {B : Int} (hi : i ≤ 8) (hB : B = 2 ^ i) (h : ¬ B ≤ 128) : i = 8 := by
  have : i < 9 := by omega
  rcases Nat.lt_or_ge i 8 with h8 | h8
  · exfalso
    have := pow_le7 i (by omega)
    omega
  · omega
theorem tmod2 {q B : Int} (h : 0 ≤ q) (hB : 1 ≤ B) : (q / B).tmod 2 = q / B % 2 := Int.tmod_eq_emod_of_nonneg (Int.ediv_nonneg h (by omega))
theorem has_no {p q B : Int} {i : Nat} (hp0 : 0 ≤ p) (hp1 : p < 256) (hq0 : 0 ≤ q) (hq1 : q < 256) (hi : i < 8) (hB : B = 2 ^ i) (h1 : 1 ≤ B) (c1 : (q / B).tmod 2 = 1) (c2 : ((p / B).tmod 2 == 0) = true) : false = hasB p q := by
  rw [tmod2 hq0 h1] at c1
  rw [tmod2 hp0 h1] at c2
  have c2' : p / B % 2 = 0 := by simpa using c2
  symm
  rw [Bool.eq_false_iff]
  intro h
  have := (hasB_iff p q hp0 hp1 hq0 hq1).mp h i hi (by rw [← hB]; exact c1)
  rw [← hB] at this
  omega
theorem has_yes {p q B : Int} {i : Nat} (hp0 : 0 ≤ p) (hB : B = 2 ^ i) (h1 : 1 ≤ B) (hu : HasUpto p q i) (c2 : ((p / B).tmod 2 == 0) = false) : HasUpto p q (i + 1) := by
  rw [tmod2 hp0 h1] at c2
  have c2' : ¬ p / B % 2 = 0 := by simpa using c2
  intro j hj h
  rcases Nat.lt_or_ge j i with hlt | hge
  · exact hu j hlt h
  · obtain rfl : j = i := by omega
    rw [← hB]; omega
theorem has_skip {p q B : Int} {i : Nat} (hq0 : 0 ≤ q) (hB : B = 2 ^ i) (h1 : 1 ≤ B) (hu : HasUpto p q i) (c1 : ¬ (q / B).tmod 2 = 1) : HasUpto p q (i + 1) := by
  rw [tmod2 hq0 h1] at c1
  intro j hj h
  rcases Nat.lt_or_ge j i with hlt | hge
  · exact hu j hlt h
  · obtain rfl : j = i := by omega
    rw [hB] at c1; exact absurd h c1
theorem pow_next {i : Nat} {B : Int} (hB : B = 2 ^ i) : 2 * B = 2 ^ (i + 1) := by rw [hB, Int.pow_succ]; omega
set_option maxHeartbeats 400000 in
theorem refHas_any (p q : Int) (w : World) (hp0 : 0 ≤ p) (hp1 : p < 256) (hq0 : 0 ≤ q) (hq1 : q < 256) :
    Calls Tryz.prog 98 #[.int .i64 p, .int .i64 q] w fun x w' => x = .returned (.bool (hasB p q)) ∧ w = w' := by
  go_enter Tryz.func98, Tryz.ntmps98
  go_wp2
  go_loop [5] (fun t => ∃ (i : Nat) (B : Int), i ≤ 8 ∧ Hid (B = 2 ^ i) ∧ 1 ≤ B ∧ B ≤ 256 ∧ t = .int .i64 B ∧ HasUpto p q i) (fun t => (256 - intOf t).toNat)
  case atStart => exact ⟨0, 1, by omega, ⟨rfl⟩, by omega, by omega, rfl, fun j hj => by omega⟩
  case round =>
    obtain ⟨i, B, hi, hB, h1, h2, rfl, hu⟩ := hrel
    by_cases hlt : B ≤ 128
    · have hi8 := pow_small hi hB.out hlt
      go_wp2
      · go_ret
        exact ⟨ret_bool (has_no hp0 hp1 hq0 hq1 hi8 hB.out h1 ‹_› ‹_›), rfl⟩
      · refine ⟨⟨i + 1, 2 * B, by omega, ⟨pow_next hB.out⟩, by omega, by omega, rfl, has_yes hp0 hB.out h1 hu ‹_›⟩, ?_⟩
        simp [intOf]; omega
      · refine ⟨⟨i + 1, 2 * B, by omega, ⟨pow_next hB.out⟩, by omega, by omega, rfl, has_skip hq0 hB.out h1 hu ‹_›⟩, ?_⟩
        simp [intOf]; omega
    · have hi8 := pow_great hi hB.out hlt
      go_wp2
      go_ret
      refine ⟨ret_bool ?_, rfl⟩
      subst hi8
      exact ((hasB_iff p q hp0 hp1 hq0 hq1).mpr hu).symm
set_option maxHeartbeats 1000000 in
theorem refCapRight_any (b e c p s : Int) (w : World) (hp : B8 p) :
    Calls Tryz.prog 88 #[.agg #[.int .u64 b, .int .u64 e, .int .u64 c, .int .u8 p, .int .i64 s]] w fun x w' => x = .returned (.bool (rightB b e p s)) ∧ w.alloc (.cells #[.int .u64 b, .int .u64 e, .int .u64 c, .int .u8 p, .int .i64 s] 41) = w' := by
  have hh := fun W => refHas_any 127 p W (by omega) (by omega) hp.1 hp.2
  have hw : IntKind.i64.wrap p = p := by have := hp.1; have := hp.2; rw [IntKind.wrap_i64]; omega
  go_enter Tryz.func88, Tryz.ntmps88
  go_wp2_with (go_at_call 98; refine (hh _).mono ?_; rintro x w' ⟨rfl, rfl⟩)
  all_goals
    go_ret
    refine ⟨ret_bool ?_, rfl⟩
    first | (refine right_last ?_ ?_ ?_ ?_ <;> assumption) | (refine right_false ?_; rintro ⟨h1, h2, h3, h4, h5⟩; first | omega | contradiction)
theorem and16 {p : Int} (hp : B8 p) : (bits .and .u8 p 16 == 0) = (p / 16 % 2 == 0) := by
  have := all_bytes (fun n => (bits .and .u8 (n : Int) 16 == 0) == ((n : Int) / 16 % 2 == 0)) (by kernel_rfl) p hp.2
  have e : ((p.toNat : Nat) : Int) = p := Int.toNat_of_nonneg hp.1
  simp only [e] at this
  simpa using this
set_option maxHeartbeats 1000000 in
theorem refFit_any (b e c p s : Int) (w : World) (hp : B8 p) :
    Calls Tryz.prog 64 #[.agg #[.int .u64 b, .int .u64 e, .int .u64 c, .int .u8 p, .int .i64 s]] w fun x w' => x = .returned (.bool (dataB b e p s)) ∧ Gr w w' := by
  have h16 := and16 hp
  unfold dataB
  rw [h16]
  have hc := fun W => refCapRight_any b e c p s W hp
  have hp0 := hp.1
  have hp1 := hp.2
  generalize rightB b e p s = r at *
  clear h16
  cases r
  all_goals
    go_enter Tryz.func64, Tryz.ntmps64
    go_wp2_with (go_at_call 88; refine (hc _).mono ?_; rintro x w' ⟨rfl, rfl⟩)
    go_ret
    refine ⟨ret_bool (by simp), ?_⟩
    repeat (first | exact Gr.refl _ | refine Gr.alloc ?_ _)
set_option maxHeartbeats 1000000 in
theorem refCapOf_at (t : PTyp) (c : Int) (w : World) :
    Calls Tryz.prog 87 #[.agg #[.bool t.cap, .int .u64 t.b, .int .u64 t.e, .int .u64 t.lo, .int .u64 t.hi, .int .u8 t.p, .int .i64 t.s], .int .u64 c] w fun x w' => x = .returned (.agg #[.int .u64 t.b, .int .u64 t.e, .int .u64 c, .int .u8 t.p, .int .i64 t.s]) ∧ Gr w w' := by
  go_enter Tryz.func87, Tryz.ntmps87
  go_wp2
  all_goals
    simp [bodyPost, results, Tryz.results87, go_sem]
    repeat (first | exact Gr.refl _ | refine Gr.alloc ?_ _)
set_option maxHeartbeats 1000000 in
theorem refRightType_any (t : PTyp) (w : World) (hr : t.Rng) :
    Calls Tryz.prog 63 #[.agg #[.bool t.cap, .int .u64 t.b, .int .u64 t.e, .int .u64 t.lo, .int .u64 t.hi, .int .u8 t.p, .int .i64 t.s]] w fun x w' => x = .returned (.bool t.right) ∧ Gr w w' := by
  have hc := refCapOf_at t 0
  cases ht : t.cap with
  | false =>
    go_enter Tryz.func63, Tryz.ntmps63
    go_wp2
    all_goals
      go_ret
      refine ⟨ret_bool (by simp_all [PTyp.right]), ?_⟩
      (with_reducible repeat (first | exact Gr.refl _ | refine Gr.alloc ?_ _ | refine Gr.grow ?_ _ | refine Gr.drew ?_ | refine Gr.setCell ?_ _ _ _ (gr_size ?_)))
  | true =>
    rw [ht] at hc
    have hd := fun W => refFit_any t.b t.e 0 t.p t.s W hr.2.2.2.2.1
    have e : t.right = (dataB t.b t.e t.p t.s && decide (t.lo ≤ t.hi)) := by simp [PTyp.right, ht]
    rw [e]
    clear e ht hr
    generalize dataB t.b t.e t.p t.s = q at hd ⊢
    have L1 := grow_cell; have L2 := grow_frozen; have L3 := grow_set; have L4 := grow_lt; have L5 := glt1; have L6 := glt2; have L7 := glt3; have L8 := glt4; have L9 := glt5; have L10 := glt6; have L11 := lt1; have L12 := lt2; have L13 := lt3; have L14 := lt4; have L15 := lt5; have L16 := lt6; have L17 := lt7; have L18 := lt8
    cases q
    all_goals
      go_enter Tryz.func63, Tryz.ntmps63
      go_wp2_with (first | (go_at_call 87; refine (hc _).mono ?_; rintro x w' ⟨rfl, hG⟩; (repeat (replace hG := Gr.of_grow hG)); obtain ⟨l, rfl⟩ := hG) | (go_at_call 64; refine (hd _).mono ?_; rintro x w' ⟨rfl, hG⟩; (repeat (replace hG := Gr.of_grow hG)); obtain ⟨l, rfl⟩ := hG))
      go_ret
      refine ⟨ret_bool (by simp), ?_⟩
      (with_reducible repeat (first | exact Gr.refl _ | refine Gr.alloc ?_ _ | refine Gr.grow ?_ _ | refine Gr.drew ?_ | refine Gr.setCell ?_ _ _ _ (gr_size ?_)))
end Go.Proofs.YtmmakknhaacplaaGreatDoor


/-
  Stage 4, image: the document's own answer: a region.
-/
namespace Go.Proofs.YtmmakknhaacplaaGreatDoor
open Go.RowKit

/-- What is wrong with a region, behind where the one ahead ended. -/
def regE (r : PReg) (f : Int) : Int := if placeB r.b r.n f && contentB r.n r.data r.slots.length then (if slotsR r.slots then 0 else 45) else 43
theorem regsR_E (r : PReg) (L : List PReg) (f : Int) : regsR (r :: L) f = if regE r f = 0 then regsR L (r.b + r.n) else regE r f := by
  rw [regsR]
  unfold regE
  split
  · split <;> simp
  · simp
def sltE (b : Bool) : Int := if b = true then 0 else 45
theorem last_nought (d : List UInt8) (h : 0 < d.length) : endsNought d = (d[d.length - 1] == 0) := by
  unfold endsNought
  rw [List.getLast?_eq_getElem?, List.getElem?_eq_getElem (by omega)]
set_option maxRecDepth 10000 in
set_option maxHeartbeats 4000000 in
theorem refRegion_any (r : PReg) (sa : Option Addr) (sc : Nat) (f : Int) (w : World) (hs : FIn 8 PSlot.vals w.heap.size w sa r.slots) (hr : r.Rng) :
    Calls Tryz.prog 41 #[.agg #[.int .u64 r.b, .int .u64 r.n, .string (str r.data), .slice sa r.slots.length sc], .int .u64 f] w fun x w' => x = .returned (.int .i64 (regE r f)) ∧ Gr w w' := by
  obtain ⟨⟨rb0, rb1⟩, ⟨rn0, rn1⟩, hd, hsl, hsr⟩ := hr
  have m1 : r.b.tmod 16 = r.b % 16 := Int.tmod_eq_emod_of_nonneg rb0
  have m2 : r.n.tmod 16 = r.n % 16 := Int.tmod_eq_emod_of_nonneg rn0
  have hsl1 : (r.slots.length : Int) ≤ 140737488355328 := by unfold maxG at hsl; omega
  have hd1 : (r.data.length : Int) ≤ 140737488355328 := by unfold maxG at hd; omega
  have ss := str_size r.data
  replace hs := Hid.mk hs
  replace hsr := Hid.mk hsr
  clear hd hsl
  by_cases hp : placeB r.b r.n f = true
  case neg =>
    have hE : regE r f = 43 := by unfold regE; rw [if_neg (by rw [Bool.and_eq_true]; exact fun q => hp q.1)]
    rw [hE]
    simp [placeB] at hp
    by_cases a1 : r.b % 16 = 0
    case neg =>
      have g1 : (r.b % 16 != 0) = true := by simpa using a1
      clear hp hE
      replace a1 := Hid.mk a1
      go_enter Tryz.func41, Tryz.ntmps41
      go_wp2_with fail
      go_ret
      exact ⟨rfl, (Gr.refl w).alloc _⟩
    have g1 : (r.b % 16 != 0) = false := by simpa using a1
    by_cases a2 : r.n % 16 = 0
    case neg =>
      have g2 : (r.n % 16 != 0) = true := by simpa using a2
      clear hp hE
      replace a1 := Hid.mk a1
      replace a2 := Hid.mk a2
      go_enter Tryz.func41, Tryz.ntmps41
      go_wp2_with fail
      go_ret
      exact ⟨rfl, (Gr.refl w).alloc _⟩
    have g2 : (r.n % 16 != 0) = false := by simpa using a2
    by_cases a3 : r.n = 0
    case pos =>
      have g3 : (r.n == 0) = true := by simpa using a3
      clear hp hE
      replace a1 := Hid.mk a1
      replace a2 := Hid.mk a2
      replace a3 := Hid.mk a3
      go_enter Tryz.func41, Tryz.ntmps41
      go_wp2_with fail
      go_ret
      exact ⟨rfl, (Gr.refl w).alloc _⟩
    have g3 : (r.n == 0) = false := by simpa using a3
    by_cases a4 : r.b < 65536
    case neg =>
      have g4 : (65536 : Int) ≤ r.b := by omega
      clear hp hE
      replace a1 := Hid.mk a1
      replace a2 := Hid.mk a2
      replace a3 := Hid.mk a3
      replace a4 := Hid.mk a4
      go_enter Tryz.func41, Tryz.ntmps41
      go_wp2_with fail
      go_ret
      exact ⟨rfl, (Gr.refl w).alloc _⟩
    have g4 : ¬ (65536 : Int) ≤ r.b := by omega
    have m3 : IntKind.u64.wrap (65536 - r.b) = 65536 - r.b := by rw [IntKind.wrap_u64]; omega
    by_cases a5 : r.n ≤ 65536 - r.b
    case neg =>
      have g5 : 65536 - r.b < r.n := by omega
      clear hp hE
      replace a1 := Hid.mk a1
      replace a2 := Hid.mk a2
      replace a3 := Hid.mk a3
      replace a4 := Hid.mk a4
      replace a5 := Hid.mk a5
      go_enter Tryz.func41, Tryz.ntmps41
      go_wp2_with fail
      go_ret
      exact ⟨rfl, (Gr.refl w).alloc _⟩
    have g5 : ¬ 65536 - r.b < r.n := by omega
    have g6 : r.b < f := by
      rcases Int.lt_or_le r.b f with q | q
      · exact q
      · exact absurd (hp a1 a2 a3 q a4) (by omega)
    clear hp hE
    replace a1 := Hid.mk a1
    replace a2 := Hid.mk a2
    replace a3 := Hid.mk a3
    replace a4 := Hid.mk a4
    replace a5 := Hid.mk a5
    go_enter Tryz.func41, Tryz.ntmps41
    go_wp2_with fail
    go_ret
    exact ⟨rfl, (Gr.refl w).alloc _⟩
  have hpp := hp
  simp [placeB] at hpp
  have g1 : (r.b % 16 != 0) = false := by simp; omega
  have g2 : (r.n % 16 != 0) = false := by simp; omega
  have g3 : (r.n == 0) = false := by simp; omega
  have g4 : ¬ (65536 : Int) ≤ r.b := by omega
  have m3 : IntKind.u64.wrap (65536 - r.b) = 65536 - r.b := by rw [IntKind.wrap_u64]; omega
  have g5 : ¬ 65536 - r.b < r.n := by omega
  have g6 : ¬ r.b < f := by omega
  have hE : regE r f = if contentB r.n r.data r.slots.length then (if slotsR r.slots then 0 else 45) else 43 := by unfold regE; rw [hp, Bool.true_and]
  rw [hE]
  replace hpp := Hid.mk hpp
  clear hE hp
  by_cases hk : r.slots.length = 0
  · have gk : ((r.slots.length : Int) == 0) = true := by rw [hk]; rfl
    have e2 : IntKind.u64.wrap (r.data.length : Int) = r.data.length := by rw [IntKind.wrap_u64]; omega
    have hsl0 : slotsR r.slots = true := by
      cases hq : r.slots with
      | nil => rfl
      | cons _ _ => rw [hq] at hk; simp at hk
    have hcE : contentB r.n r.data r.slots.length = (decide ((r.data.length : Int) ≤ r.n) && !endsNought r.data) := by unfold contentB; rw [if_neg (by omega)]
    rw [hcE, hsl0]
    clear hcE hsl0
    replace hk := Hid.mk hk
    by_cases b1 : (r.data.length : Int) ≤ r.n
    case neg =>
      have b1' : r.n < (r.data.length : Int) := by omega
      have hz : (if (decide ((r.data.length : Int) ≤ r.n) && !endsNought r.data) = true then (if true = true then (0 : Int) else 45) else 43) = 43 := by simp [b1]
      rw [hz]
      clear hz
      replace b1 := Hid.mk b1
      go_enter Tryz.func41, Tryz.ntmps41
      go_wp2_with fail
      go_ret
      exact ⟨rfl, (Gr.refl w).alloc _⟩
    have b1' : ¬ r.n < (r.data.length : Int) := by omega
    by_cases b2 : 0 < r.data.length
    · have b2' : (0 : Int) < r.data.length := by omega
      rw [last_nought r.data b2]
      have i1 : IntKind.i64.wrap ((r.data.length : Int) - 1) = (r.data.length : Int) - 1 := by rw [IntKind.wrap_i64]; omega
      have i2 : ((r.data.length : Int) - 1).toNat = r.data.length - 1 := by omega
      have i3 : (0 : Int) ≤ (r.data.length : Int) - 1 := by omega
      have i4 : ((r.data.length : Int) - 1) < r.data.length := by omega
      have hby := str_byte r.data (r.data.length - 1) (by omega)
      have hbv : byteAt r.data (r.data.length - 1) = (r.data[r.data.length - 1].toNat : Int) := by
        have hq9 : r.data.length - 1 < r.data.length := by omega
        simp [byteAt, hq9]
      have hz8 : (r.data[r.data.length - 1] == 0) = (byteAt r.data (r.data.length - 1) == 0) := by
        rw [hbv, Bool.eq_iff_iff]
        simp only [beq_iff_eq]
        constructor
        · intro q; rw [q]; rfl
        · intro q
          apply UInt8.toNat_inj.1
          have : r.data[r.data.length - 1].toNat = 0 := by omega
          rw [this]; rfl
      rw [hz8]
      clear hz8 hbv
      generalize byteAt r.data (r.data.length - 1) = z at *
      replace b1 := Hid.mk b1
      cases hz : (z == 0) with
      | true =>
        have hzz : (if (decide ((r.data.length : Int) ≤ r.n) && !true) = true then (if true = true then (0 : Int) else 45) else 43) = 43 := by simp
        rw [hzz]
        clear hzz
        go_enter Tryz.func41, Tryz.ntmps41
        go_wp2_with fail
        go_ret
        exact ⟨rfl, (Gr.refl w).alloc _⟩
      | false =>
        have hzz : (if (decide ((r.data.length : Int) ≤ r.n) && !false) = true then (if true = true then (0 : Int) else 45) else 43) = 0 := by simp [b1.out]
        rw [hzz]
        clear hzz
        go_enter Tryz.func41, Tryz.ntmps41
        go_wp2_with fail
        go_ret
        exact ⟨rfl, (Gr.refl w).alloc _⟩
    · have b2' : ¬ (0 : Int) < r.data.length := by omega
      have hd0 : r.data = [] := by cases hq : r.data with | nil => rfl | cons _ _ => rw [hq] at b2; simp at b2
      have hzz : (if (decide ((r.data.length : Int) ≤ r.n) && !endsNought r.data) = true then (if true = true then (0 : Int) else 45) else 43) = 0 := by
        rw [hd0] at b1 ⊢
        have : endsNought [] = false := rfl
        simp [this]
        simpa using b1
      rw [hzz]
      clear hzz
      replace hd0 := Hid.mk hd0
      replace b1 := Hid.mk b1
      go_enter Tryz.func41, Tryz.ntmps41
      go_wp2_with fail
      go_ret
      exact ⟨rfl, (Gr.refl w).alloc _⟩
  · have gk : ((r.slots.length : Int) == 0) = false := beq_false_of_ne (by omega)
    have e1 : IntKind.u64.wrap (16 * (r.slots.length : Int)) = 16 * r.slots.length := by rw [IntKind.wrap_u64]; omega
    have e2 : IntKind.u64.wrap (r.slots.length : Int) = r.slots.length := by rw [IntKind.wrap_u64]; omega
    have hcE : contentB r.n r.data r.slots.length = (r.data.isEmpty && (r.n == 16 * (r.slots.length : Int))) := by unfold contentB; rw [if_pos (by omega)]
    rw [hcE]
    clear hcE
    replace hk := Hid.mk hk
    by_cases b1 : r.data = []
    case neg =>
      have b1' : ¬ (str r.data).toList = [] := by rw [str_list]; exact b1
      have hzz : (if (r.data.isEmpty && (r.n == 16 * (r.slots.length : Int))) = true then (if slotsR r.slots = true then (0 : Int) else 45) else 43) = 43 := by simp [b1]
      rw [hzz]
      clear hzz
      replace b1 := Hid.mk b1
      go_enter Tryz.func41, Tryz.ntmps41
      go_wp2_with fail
      go_ret
      exact ⟨rfl, (Gr.refl w).alloc _⟩
    have b1' : (str r.data).toList = [] := by rw [str_list]; exact b1
    by_cases b2 : r.n = 16 * (r.slots.length : Int)
    case neg =>
      have b2' : (r.n != 16 * (r.slots.length : Int)) = true := by simpa using b2
      have hzz : (if (r.data.isEmpty && (r.n == 16 * (r.slots.length : Int))) = true then (if slotsR r.slots = true then (0 : Int) else 45) else 43) = 43 := by simp [b2]
      rw [hzz]
      clear hzz
      replace b1 := Hid.mk b1
      replace b2 := Hid.mk b2
      go_enter Tryz.func41, Tryz.ntmps41
      go_wp2_with fail
      go_ret
      exact ⟨rfl, (Gr.refl w).alloc _⟩
    have b2' : (r.n != 16 * (r.slots.length : Int)) = false := by simpa using b2
    have hzz : (if (r.data.isEmpty && (r.n == 16 * (r.slots.length : Int))) = true then (if slotsR r.slots = true then (0 : Int) else 45) else 43) = sltE (slotsR r.slots) := by rw [b1, b2]; simp [sltE]
    rw [hzz]
    clear hzz
    replace b1 := Hid.mk b1
    replace b2 := Hid.mk b2
    have X := Hid.mk (Box.new w #[.int .u64 r.b, .int .u64 r.n, .string (str r.data), .slice sa r.slots.length sc] 47)
    have hGR := Hid.mk ((Gr.refl w).alloc (.cells #[.int .u64 r.b, .int .u64 r.n, .string (str r.data), .slice sa r.slots.length sc] 47))
    go_enter Tryz.func41, Tryz.ntmps41
    go_wp2_with fail
    generalize w.alloc (.cells #[.int .u64 r.b, .int .u64 r.n, .string (str r.data), .slice sa r.slots.length sc] 47) = R0 at *
    replace hs := Hid.mk ((hs.out.below hGR.out.below).mono (gr_size hGR.out))
    clear g1 g2 g3 g4 g5 g6 gk b1' b2' e1 e2 m1 m2 m3
    go_loopw [6] (fun i wr => ∃ k : Nat, i = .int .i64 k ∧ k ≤ r.slots.length ∧ Hid (slotsR (r.slots.drop k) = slotsR r.slots ∧ Gr R0 wr)) (fun i _ => r.slots.length - (intOf i).toNat)
    case atStart => exact ⟨0, rfl, by omega, ⟨rfl, Gr.refl _⟩⟩
    case round =>
      obtain ⟨k, rfl, hkk, ⟨hsf, hG⟩⟩ := hrel
      have X1 := X.out.gr hG
      have ⟨z0, p0, f0⟩ := X1.at
      replace X1 := Hid.mk X1
      by_cases hkl : k < r.slots.length
      · have kl : (k : Int) < r.slots.length := by omega
        obtain ⟨b2, off2, rfl, hb3, hb4, hcc⟩ := (hs.out.below hG.below) k hkl
        obtain ⟨d0, d1, d2, d3, d4, d5, d6, d7⟩ := slot_cells hcc
        clear hcc
        rw [slotsR_at hkl] at hsf
        have htr := hsr.out r.slots[k] (List.getElem_mem hkl)
        have hT := fun W => refRightType_any r.slots[k].t W htr.1
        have hpr : r.slots[k].right = (r.slots[k].t.cap && r.slots[k].t.right && inLH r.slots[k].t.lo r.slots[k].t.hi r.slots[k].c) := rfl
        rw [hpr] at hsf
        generalize r.slots[k] = sl at *
        obtain ⟨t, cu⟩ := sl
        simp only at *
        clear htr hpr
        have TB := Box.new wr #[.bool t.cap, .int .u64 t.b, .int .u64 t.e, .int .u64 t.lo, .int .u64 t.hi, .int .u8 t.p, .int .i64 t.s] 66
        have hGT : Gr wr (wr.alloc (.cells #[.bool t.cap, .int .u64 t.b, .int .u64 t.e, .int .u64 t.lo, .int .u64 t.hi, .int .u8 t.p, .int .i64 t.s] 66)) := (Gr.refl wr).alloc _
        replace TB := Hid.mk TB
        replace hGT := Hid.mk hGT
        replace hG := Hid.mk hG
        cases hq0 : t.cap with
        | false =>
          simp only [hq0] at hsf hT d0 TB hGT
          simp only [Bool.false_and] at hsf
          replace hsf := Hid.mk hsf
          replace hq0 := Hid.mk hq0
          generalize t.right = tr at hT
          go_wp2_with fail
          clear z0 p0 f0
          refine (hT _).mono ?_
          rintro x w2 ⟨rfl, hG2⟩
          replace TB := TB.out.gr hG2
          have X2 := (X1.out.gr hGT.out).gr hG2
          have d7' := (hG2.cell (Nat.lt_of_lt_of_le hb4 (gr_size hGT.out)) _).trans ((hGT.out.cell hb4 _).trans d7)
          replace hG := Hid.mk ((hG.out.trans hGT.out).trans hG2)
          have hb5 : b2 < w2.heap.size := Nat.lt_of_lt_of_le hb4 (Nat.le_trans (gr_size hGT.out) (gr_size hG2))
          have ⟨z0, p0, f0⟩ := TB.at
          have ⟨z1, p1, f1⟩ := X2.at
          replace TB := Hid.mk TB
          replace X2 := Hid.mk X2
          clear hG2 hT hGT d0 d1 d2 d3 d4 d5 d6 d7 hb4 X1
          go_wp2_with fail
          go_quiet (fail)
          go_wp2_with fail
          go_ret
          exact ⟨retI (by rw [← hsf.out]; rfl), hGR.out.trans (hG.out.drewN _)⟩
        | true =>
          simp only [hq0] at hsf hT d0 TB hGT
          cases hq1 : t.right with
          | false =>
            simp only [hq1] at hsf hT
            simp only [Bool.and_false, Bool.false_and] at hsf
            replace hsf := Hid.mk hsf
            replace hq0 := Hid.mk hq0
            replace hq1 := Hid.mk hq1
            go_wp2_with fail
            clear z0 p0 f0
            refine (hT _).mono ?_
            rintro x w2 ⟨rfl, hG2⟩
            replace TB := TB.out.gr hG2
            have X2 := (X1.out.gr hGT.out).gr hG2
            have d7' := (hG2.cell (Nat.lt_of_lt_of_le hb4 (gr_size hGT.out)) _).trans ((hGT.out.cell hb4 _).trans d7)
            replace hG := Hid.mk ((hG.out.trans hGT.out).trans hG2)
            have hb5 : b2 < w2.heap.size := Nat.lt_of_lt_of_le hb4 (Nat.le_trans (gr_size hGT.out) (gr_size hG2))
            have ⟨z0, p0, f0⟩ := TB.at
            have ⟨z1, p1, f1⟩ := X2.at
            replace TB := Hid.mk TB
            replace X2 := Hid.mk X2
            clear hG2 hT hGT d0 d1 d2 d3 d4 d5 d6 d7 hb4 X1
            go_wp2_with fail
            go_quiet (fail)
            go_wp2_with fail
            go_ret
            exact ⟨retI (by rw [← hsf.out]; rfl), hGR.out.trans (hG.out.drewN _)⟩
          | true =>
            simp only [hq1] at hsf hT
            simp only [Bool.true_and] at hsf
            replace hq0 := Hid.mk hq0
            replace hq1 := Hid.mk hq1
            by_cases c1 : cu < t.lo
            · have hz : inLH t.lo t.hi cu = false := by unfold inLH; simp; omega
              rw [hz, Bool.false_and] at hsf
              replace hsf := Hid.mk hsf
              clear hz
              go_wp2_with fail
              clear z0 p0 f0
              refine (hT _).mono ?_
              rintro x w2 ⟨rfl, hG2⟩
              replace TB := TB.out.gr hG2
              have X2 := (X1.out.gr hGT.out).gr hG2
              have d7' := (hG2.cell (Nat.lt_of_lt_of_le hb4 (gr_size hGT.out)) _).trans ((hGT.out.cell hb4 _).trans d7)
              replace hG := Hid.mk ((hG.out.trans hGT.out).trans hG2)
              have hb5 : b2 < w2.heap.size := Nat.lt_of_lt_of_le hb4 (Nat.le_trans (gr_size hGT.out) (gr_size hG2))
              have ⟨z0, p0, f0⟩ := TB.at
              have ⟨z1, p1, f1⟩ := X2.at
              replace TB := Hid.mk TB
              replace X2 := Hid.mk X2
              clear hG2 hT hGT d0 d1 d2 d3 d4 d5 d6 d7 hb4 X1
              go_wp2_with fail
              go_quiet (fail)
              go_wp2_with fail
              go_ret
              exact ⟨retI (by rw [← hsf.out]; rfl), hGR.out.trans (hG.out.drewN _)⟩
            · by_cases c2 : t.hi < cu
              · have hz : inLH t.lo t.hi cu = false := by unfold inLH; simp; omega
                rw [hz, Bool.false_and] at hsf
                replace hsf := Hid.mk hsf
                clear hz
                go_wp2_with fail
                clear z0 p0 f0
                refine (hT _).mono ?_
                rintro x w2 ⟨rfl, hG2⟩
                replace TB := TB.out.gr hG2
                have X2 := (X1.out.gr hGT.out).gr hG2
                have d7' := (hG2.cell (Nat.lt_of_lt_of_le hb4 (gr_size hGT.out)) _).trans ((hGT.out.cell hb4 _).trans d7)
                replace hG := Hid.mk ((hG.out.trans hGT.out).trans hG2)
                have hb5 : b2 < w2.heap.size := Nat.lt_of_lt_of_le hb4 (Nat.le_trans (gr_size hGT.out) (gr_size hG2))
                have ⟨z0, p0, f0⟩ := TB.at
                have ⟨z1, p1, f1⟩ := X2.at
                replace TB := Hid.mk TB
                replace X2 := Hid.mk X2
                clear hG2 hT hGT d0 d1 d2 d3 d4 d5 d6 d7 hb4 X1
                go_wp2_with fail
                go_quiet (fail)
                go_wp2_with fail
                go_ret
                exact ⟨retI (by rw [← hsf.out]; rfl), hGR.out.trans (hG.out.drewN _)⟩
              · have hz : inLH t.lo t.hi cu = true := by unfold inLH; simp; omega
                rw [hz, Bool.true_and] at hsf
                replace hsf := Hid.mk hsf
                clear hz
                go_wp2_with fail
                clear z0 p0 f0
                refine (hT _).mono ?_
                rintro x w2 ⟨rfl, hG2⟩
                replace TB := TB.out.gr hG2
                have X2 := (X1.out.gr hGT.out).gr hG2
                have d7' := (hG2.cell (Nat.lt_of_lt_of_le hb4 (gr_size hGT.out)) _).trans ((hGT.out.cell hb4 _).trans d7)
                replace hG := Hid.mk ((hG.out.trans hGT.out).trans hG2)
                have hb5 : b2 < w2.heap.size := Nat.lt_of_lt_of_le hb4 (Nat.le_trans (gr_size hGT.out) (gr_size hG2))
                have ⟨z0, p0, f0⟩ := TB.at
                have ⟨z1, p1, f1⟩ := X2.at
                replace TB := Hid.mk TB
                replace X2 := Hid.mk X2
                clear hG2 hT hGT d0 d1 d2 d3 d4 d5 d6 d7 hb4 X1
                go_wp2_with fail
                go_quiet (fail)
                go_wp2_with fail
                go_roundw
                case rel => exact ⟨k + 1, by simp, by omega, ⟨hsf.out, hG.out.drewN _⟩⟩
                case measure => simp [intOf]; omega
      · have kl : ¬ (k : Int) < r.slots.length := by omega
        rw [drop_end hkl] at hsf
        have hq : sltE (slotsR r.slots) = 0 := by rw [← hsf]; rfl
        replace hG := Hid.mk hG
        replace hq := Hid.mk hq
        clear hsf
        go_wp2_with fail
        go_ret
        exact ⟨retI hq.out.symm, hGR.out.trans hG.out⟩
end Go.Proofs.YtmmakknhaacplaaGreatDoor
