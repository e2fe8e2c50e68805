/-
  Stage 2, span: Apply, of every operation and of what is none.
-/
import Derived.Test.YtodhgmeecphckaaSApply
import Derived.Test.YtodhgmeecphckaaSOne
import Derived.Test.YtodhgmeecphckaaSAll
import Derived.Test.YtodhgmeecphckaaSOrs
import Derived.Test.YtodhgmeecphckaaSMove
namespace Go.Proofs.Ytodhgmeecphckaa
open Go.RowKit

theorem Apply_op (op a b c d v r1 r2 : Int) (f g : Nat) (w : World) (h0 : 0 ≤ op) (h1 : op < 256) (h2 : a ≤ b) (h3 : c ≤ d)
    (q0 : rowV op 0 = .func (.func f) #[] #[]) (q1 : rowV op 1 = .func (.func g) #[] #[]) (e0 : ∀ args w, (callFunc f args).run Try.prog w = .ok (.enter f args) w) (e1 : ∀ args w, (callFunc g args).run Try.prog w = .ok (.enter g args) w)
    (k0 : ∀ w, Calls Try.prog f #[.int .u64 a, .int .u64 c] w fun x w' => x = .returned (.int .u64 v) ∧ w = w')
    (k1 : ∀ w, Calls Try.prog g #[.agg #[.int .u64 a, .int .u64 b], .agg #[.int .u64 c, .int .u64 d]] w fun x w' => x = .returned (.agg #[.int .u64 r1, .int .u64 r2]) ∧ Gr w w') :
    Calls Try.prog 14 #[.int .u8 op, .agg #[.int .u64 a, .int .u64 b], .agg #[.int .u64 c, .int .u64 d]] w fun x w' => x = .returned (.agg #[.int .u64 (if a = b ∧ c = d then v else r1), .int .u64 (if a = b ∧ c = d then v else r2)]) ∧ Gr w w' := by
  by_cases s1 : a = b
  · subst s1
    by_cases s2 : c = d
    · subst s2
      rw [if_pos ⟨rfl, rfl⟩, if_pos ⟨rfl, rfl⟩]
      exact Apply_o op a c v f g w h0 h1 q0 q1 e0 k0
    · rw [if_neg (fun h => s2 h.2), if_neg (fun h => s2 h.2)]
      exact Apply_a2 op a c d r1 r2 f g w h0 h1 h3 (by simp [s2]) q0 q1 e1 k1
  · rw [if_neg (fun h => s1 h.1), if_neg (fun h => s1 h.1)]
    exact Apply_a1 op a b c d r1 r2 f g w h0 h1 h2 h3 (by simp [s1]) q0 q1 e1 k1
theorem row_none (op : Int) (h0 : 0 ≤ op) (h : isOp op = false) : rowV op 0 = .nilFunc := by
  by_cases hp : 25 ≤ op
  · exact row_past op 0 hp
  · have : op = 0 ∨ op = 1 ∨ op = 2 ∨ op = 11 ∨ (14 ≤ op ∧ op ≤ 24) := by simp [isOp] at h; omega
    have t : op = 0 ∨ op = 1 ∨ op = 2 ∨ op = 11 ∨ op = 14 ∨ op = 15 ∨ op = 16 ∨ op = 17 ∨ op = 18 ∨ op = 19 ∨ op = 20 ∨ op = 21 ∨ op = 22 ∨ op = 23 ∨ op = 24 := by omega
    rcases t with rfl | rfl | rfl | rfl | rfl | rfl | rfl | rfl | rfl | rfl | rfl | rfl | rfl | rfl | rfl
    · exact (by kernel_rfl : rowV 0 0 = .nilFunc)
    · exact (by kernel_rfl : rowV 1 0 = .nilFunc)
    · exact (by kernel_rfl : rowV 2 0 = .nilFunc)
    · exact (by kernel_rfl : rowV 11 0 = .nilFunc)
    · exact (by kernel_rfl : rowV 14 0 = .nilFunc)
    · exact (by kernel_rfl : rowV 15 0 = .nilFunc)
    · exact (by kernel_rfl : rowV 16 0 = .nilFunc)
    · exact (by kernel_rfl : rowV 17 0 = .nilFunc)
    · exact (by kernel_rfl : rowV 18 0 = .nilFunc)
    · exact (by kernel_rfl : rowV 19 0 = .nilFunc)
    · exact (by kernel_rfl : rowV 20 0 = .nilFunc)
    · exact (by kernel_rfl : rowV 21 0 = .nilFunc)
    · exact (by kernel_rfl : rowV 22 0 = .nilFunc)
    · exact (by kernel_rfl : rowV 23 0 = .nilFunc)
    · exact (by kernel_rfl : rowV 24 0 = .nilFunc)

theorem Apply_3 (a b c d : Int) (w : World) (ha : W64 a) (hb : W64 b) (hc : W64 c) (hd : W64 d) (h2 : a ≤ b) (h3 : c ≤ d) :
    Calls Try.prog 14 #[.int .u8 3, .agg #[.int .u64 a, .int .u64 b], .agg #[.int .u64 c, .int .u64 d]] w fun x w' => x = .returned (.agg #[.int .u64 (if a = b ∧ c = d then one 3 a c else allLo 3 a b c d), .int .u64 (if a = b ∧ c = d then one 3 a c else allHi 3 a b c d)]) ∧ Gr w w' :=
  Apply_op 3 a b c d (one 3 a c) (allLo 3 a b c d) (allHi 3 a b c d) 36 37 w (by omega) (by omega) h2 h3 (by kernel_rfl) (by kernel_rfl) (enters_of Try.func36 (by kernel_rfl) rfl) (enters_of Try.func37 (by kernel_rfl) rfl)
    (fun w => one3_any a c w) (fun w => sums_any a b c d w ha hb hc hd)
theorem Apply_4 (a b c d : Int) (w : World) (ha : W64 a) (hb : W64 b) (hc : W64 c) (hd : W64 d) (h2 : a ≤ b) (h3 : c ≤ d) :
    Calls Try.prog 14 #[.int .u8 4, .agg #[.int .u64 a, .int .u64 b], .agg #[.int .u64 c, .int .u64 d]] w fun x w' => x = .returned (.agg #[.int .u64 (if a = b ∧ c = d then one 4 a c else allLo 4 a b c d), .int .u64 (if a = b ∧ c = d then one 4 a c else allHi 4 a b c d)]) ∧ Gr w w' :=
  Apply_op 4 a b c d (one 4 a c) (allLo 4 a b c d) (allHi 4 a b c d) 38 39 w (by omega) (by omega) h2 h3 (by kernel_rfl) (by kernel_rfl) (enters_of Try.func38 (by kernel_rfl) rfl) (enters_of Try.func39 (by kernel_rfl) rfl)
    (fun w => one4_any a c w) (fun w => differences_any a b c d w ha hb hc hd)
theorem Apply_5 (a b c d : Int) (w : World) (ha : W64 a) (hb : W64 b) (hc : W64 c) (hd : W64 d) (h2 : a ≤ b) (h3 : c ≤ d) :
    Calls Try.prog 14 #[.int .u8 5, .agg #[.int .u64 a, .int .u64 b], .agg #[.int .u64 c, .int .u64 d]] w fun x w' => x = .returned (.agg #[.int .u64 (if a = b ∧ c = d then one 5 a c else allLo 5 a b c d), .int .u64 (if a = b ∧ c = d then one 5 a c else allHi 5 a b c d)]) ∧ Gr w w' :=
  Apply_op 5 a b c d (one 5 a c) (allLo 5 a b c d) (allHi 5 a b c d) 40 41 w (by omega) (by omega) h2 h3 (by kernel_rfl) (by kernel_rfl) (enters_of Try.func40 (by kernel_rfl) rfl) (enters_of Try.func41 (by kernel_rfl) rfl)
    (fun w => one5_any a c w) (fun w => products_any a b c d w ha hb hc hd)
theorem Apply_6 (a b c d : Int) (w : World) (_ha : W64 a) (_hb : W64 b) (_hc : W64 c) (_hd : W64 d) (h2 : a ≤ b) (h3 : c ≤ d) :
    Calls Try.prog 14 #[.int .u8 6, .agg #[.int .u64 a, .int .u64 b], .agg #[.int .u64 c, .int .u64 d]] w fun x w' => x = .returned (.agg #[.int .u64 (if a = b ∧ c = d then one 6 a c else allLo 6 a b c d), .int .u64 (if a = b ∧ c = d then one 6 a c else allHi 6 a b c d)]) ∧ Gr w w' :=
  Apply_op 6 a b c d (one 6 a c) (allLo 6 a b c d) (allHi 6 a b c d) 42 43 w (by omega) (by omega) h2 h3 (by kernel_rfl) (by kernel_rfl) (enters_of Try.func42 (by kernel_rfl) rfl) (enters_of Try.func43 (by kernel_rfl) rfl)
    (fun w => one6_any a c w) (fun w => ands_any a b c d w)
theorem Apply_7 (a b c d : Int) (w : World) (_ha : W64 a) (hb : W64 b) (_hc : W64 c) (hd : W64 d) (h2 : a ≤ b) (h3 : c ≤ d) :
    Calls Try.prog 14 #[.int .u8 7, .agg #[.int .u64 a, .int .u64 b], .agg #[.int .u64 c, .int .u64 d]] w fun x w' => x = .returned (.agg #[.int .u64 (if a = b ∧ c = d then one 7 a c else allLo 7 a b c d), .int .u64 (if a = b ∧ c = d then one 7 a c else allHi 7 a b c d)]) ∧ Gr w w' :=
  Apply_op 7 a b c d (one 7 a c) (allLo 7 a b c d) (allHi 7 a b c d) 44 45 w (by omega) (by omega) h2 h3 (by kernel_rfl) (by kernel_rfl) (enters_of Try.func44 (by kernel_rfl) rfl) (enters_of Try.func45 (by kernel_rfl) rfl)
    (fun w => one7_any a c w) (fun w => ors_any a b c d w hb hd)
theorem Apply_8 (a b c d : Int) (w : World) (_ha : W64 a) (hb : W64 b) (_hc : W64 c) (hd : W64 d) (h2 : a ≤ b) (h3 : c ≤ d) :
    Calls Try.prog 14 #[.int .u8 8, .agg #[.int .u64 a, .int .u64 b], .agg #[.int .u64 c, .int .u64 d]] w fun x w' => x = .returned (.agg #[.int .u64 (if a = b ∧ c = d then one 8 a c else allLo 8 a b c d), .int .u64 (if a = b ∧ c = d then one 8 a c else allHi 8 a b c d)]) ∧ Gr w w' :=
  Apply_op 8 a b c d (one 8 a c) (allLo 8 a b c d) (allHi 8 a b c d) 46 47 w (by omega) (by omega) h2 h3 (by kernel_rfl) (by kernel_rfl) (enters_of Try.func46 (by kernel_rfl) rfl) (enters_of Try.func47 (by kernel_rfl) rfl)
    (fun w => one8_any a c w) (fun w => xors_any a b c d w hb hd)
theorem Apply_9 (a b c d : Int) (w : World) (_ha : W64 a) (_hb : W64 b) (hc : W64 c) (hd : W64 d) (h2 : a ≤ b) (h3 : c ≤ d) :
    Calls Try.prog 14 #[.int .u8 9, .agg #[.int .u64 a, .int .u64 b], .agg #[.int .u64 c, .int .u64 d]] w fun x w' => x = .returned (.agg #[.int .u64 (if a = b ∧ c = d then one 9 a c else allLo 9 a b c d), .int .u64 (if a = b ∧ c = d then one 9 a c else allHi 9 a b c d)]) ∧ Gr w w' :=
  Apply_op 9 a b c d (one 9 a c) (allLo 9 a b c d) (allHi 9 a b c d) 48 49 w (by omega) (by omega) h2 h3 (by kernel_rfl) (by kernel_rfl) (enters_of Try.func48 (by kernel_rfl) rfl) (enters_of Try.func49 (by kernel_rfl) rfl)
    (fun w => one9_any a c w hc.1) (fun w => movesUp_any a b c d w hc.1 hd.1 h3)
theorem Apply_10 (a b c d : Int) (w : World) (_ha : W64 a) (_hb : W64 b) (hc : W64 c) (hd : W64 d) (h2 : a ≤ b) (h3 : c ≤ d) :
    Calls Try.prog 14 #[.int .u8 10, .agg #[.int .u64 a, .int .u64 b], .agg #[.int .u64 c, .int .u64 d]] w fun x w' => x = .returned (.agg #[.int .u64 (if a = b ∧ c = d then one 10 a c else allLo 10 a b c d), .int .u64 (if a = b ∧ c = d then one 10 a c else allHi 10 a b c d)]) ∧ Gr w w' :=
  Apply_op 10 a b c d (one 10 a c) (allLo 10 a b c d) (allHi 10 a b c d) 50 51 w (by omega) (by omega) h2 h3 (by kernel_rfl) (by kernel_rfl) (enters_of Try.func50 (by kernel_rfl) rfl) (enters_of Try.func51 (by kernel_rfl) rfl)
    (fun w => one10_any a c w hc.1) (fun w => movesDown_any a b c d w hc.1 hd.1 h3)
theorem Apply_12 (a b c d : Int) (w : World) (_ha : W64 a) (_hb : W64 b) (_hc : W64 c) (_hd : W64 d) (h2 : a ≤ b) (h3 : c ≤ d) :
    Calls Try.prog 14 #[.int .u8 12, .agg #[.int .u64 a, .int .u64 b], .agg #[.int .u64 c, .int .u64 d]] w fun x w' => x = .returned (.agg #[.int .u64 (if a = b ∧ c = d then one 12 a c else allLo 12 a b c d), .int .u64 (if a = b ∧ c = d then one 12 a c else allHi 12 a b c d)]) ∧ Gr w w' :=
  Apply_op 12 a b c d (one 12 a c) (allLo 12 a b c d) (allHi 12 a b c d) 52 54 w (by omega) (by omega) h2 h3 (by kernel_rfl) (by kernel_rfl) (enters_of Try.func52 (by kernel_rfl) rfl) (enters_of Try.func54 (by kernel_rfl) rfl)
    (fun w => one12_any a c w) (fun w => belows_any a b c d w)
theorem Apply_13 (a b c d : Int) (w : World) (_ha : W64 a) (_hb : W64 b) (_hc : W64 c) (_hd : W64 d) (h2 : a ≤ b) (h3 : c ≤ d) :
    Calls Try.prog 14 #[.int .u8 13, .agg #[.int .u64 a, .int .u64 b], .agg #[.int .u64 c, .int .u64 d]] w fun x w' => x = .returned (.agg #[.int .u64 (if a = b ∧ c = d then one 13 a c else allLo 13 a b c d), .int .u64 (if a = b ∧ c = d then one 13 a c else allHi 13 a b c d)]) ∧ Gr w w' :=
  Apply_op 13 a b c d (one 13 a c) (allLo 13 a b c d) (allHi 13 a b c d) 55 56 w (by omega) (by omega) h2 h3 (by kernel_rfl) (by kernel_rfl) (enters_of Try.func55 (by kernel_rfl) rfl) (enters_of Try.func56 (by kernel_rfl) rfl)
    (fun w => one13_any a c w) (fun w => equals_any a b c d w)

theorem Apply_any (op a b c d : Int) (w : World) (h0 : 0 ≤ op) (h1 : op < 256) (ha : W64 a) (hb : W64 b) (hc : W64 c) (hd : W64 d) :
    Calls Try.prog 14 #[.int .u8 op, .agg #[.int .u64 a, .int .u64 b], .agg #[.int .u64 c, .int .u64 d]] w fun x w' => x = .returned (.agg #[.int .u64 (apLo op a b c d), .int .u64 (apHi op a b c d)]) ∧ Gr w w' := by
  by_cases e1 : b < a
  · rw [show apLo op a b c d = 1 by simp [apLo, e1], show apHi op a b c d = 0 by simp [apHi, e1]]
    exact Apply_e1 op a b c d w h0 h1 e1
  by_cases e2 : d < c
  · rw [show apLo op a b c d = 1 by simp [apLo, e2], show apHi op a b c d = 0 by simp [apHi, e2]]
    exact Apply_e2 op a b c d w h0 h1 (by omega) e2
  have h2 : a ≤ b := by omega
  have h3 : c ≤ d := by omega
  have e3 : ¬ (b < a ∨ d < c) := by omega
  cases ho : isOp op with
  | false =>
    rw [show apLo op a b c d = 0 by simp [apLo, e3, ho], show apHi op a b c d = 18446744073709551615 by simp [apHi, e3, ho]]
    exact Apply_n op a b c d w h0 h1 h2 h3 (row_none op h0 ho)
  | true =>
    unfold apLo apHi
    rw [if_neg e3, if_neg e3, if_pos ho, if_pos ho]
    have t : op = 3 ∨ op = 4 ∨ op = 5 ∨ op = 6 ∨ op = 7 ∨ op = 8 ∨ op = 9 ∨ op = 10 ∨ op = 12 ∨ op = 13 := by simp [isOp] at ho; omega
    rcases t with rfl | rfl | rfl | rfl | rfl | rfl | rfl | rfl | rfl | rfl
    · exact Apply_3 a b c d w ha hb hc hd h2 h3
    · exact Apply_4 a b c d w ha hb hc hd h2 h3
    · exact Apply_5 a b c d w ha hb hc hd h2 h3
    · exact Apply_6 a b c d w ha hb hc hd h2 h3
    · exact Apply_7 a b c d w ha hb hc hd h2 h3
    · exact Apply_8 a b c d w ha hb hc hd h2 h3
    · exact Apply_9 a b c d w ha hb hc hd h2 h3
    · exact Apply_10 a b c d w ha hb hc hd h2 h3
    · exact Apply_12 a b c d w ha hb hc hd h2 h3
    · exact Apply_13 a b c d w ha hb hc hd h2 h3

end Go.Proofs.Ytodhgmeecphckaa
