/-
  Stage 6, tagmem: two lists of addresses held against each other; stores that are refused.
-/
import Derived.Test.YtbmkefpgfifigaaTKeepM
namespace Go.Proofs.Ytbmkefpgfifigaa
namespace T
open Go.RowKit

/-- A list of numbers that can be read. -/
def UIn (w : World) (a : Option Addr) (L : List Nat) : Prop := ∀ i (h : i < L.length), ∃ g off : Nat, a = some ⟨g, off, none⟩ ∧ g < w.heap.size ∧ w.cell? ⟨g, off + i, none⟩ = some (.int .u64 L[i])
theorem UOwn.uin {w : World} {base : Nat} {v : Value} {L : List Nat} (h : UOwn w base v L) : ∃ a cap, v = .slice a L.length cap ∧ UIn w a L := by
  obtain ⟨a, cap, rfl, hc⟩ := h.form
  refine ⟨a, cap, rfl, fun i hi => ?_⟩
  obtain ⟨g, rfl, h1, h2⟩ := hc i hi
  exact ⟨g, 0, rfl, h1, by rw [Nat.zero_add]; exact h2⟩
theorem UIn.below {w w1 : World} {a : Option Addr} {L : List Nat} (h : UIn w a L) (hb : Below w.heap.size w w1) : UIn w1 a L := fun i hi => by
  obtain ⟨g, off, h1, h2, h3⟩ := h i hi
  exact ⟨g, off, h1, Nat.lt_of_lt_of_le h2 hb.size, (hb.cell (p := ⟨g, _, none⟩) h2).trans h3⟩
set_option maxHeartbeats 1000000 in
theorem same_eq (L : List Nat) (a b : Option Addr) (c d : Nat) (w : World) (h1 : UIn w a L) (h2 : UIn w b L) (hl : L.length ≤ 1000000) :
    Calls Try.prog 24 #[.slice a L.length c, .slice b L.length d] w fun x w' => x = .returned (.bool true) ∧ Below w.heap.size w w' := by
  replace h1 := Hid.mk h1
  replace h2 := Hid.mk h2
  go_enter Try.func24, Try.ntmps24
  go_wp2_with fail
  go_loopw [5] (fun v wr => ∃ i : Nat, v = .int .i64 i ∧ i ≤ L.length ∧ Below w.heap.size w wr) (fun v _ => L.length - (intOf v).toNat)
  case atStart => exact ⟨0, rfl, by omega, Below.refl _ _⟩
  case round =>
    obtain ⟨i, rfl, hi, hB⟩ := hrel
    by_cases hlt : i < L.length
    · have jl : (i : Int) < L.length := by omega
      obtain ⟨g1, o1, rfl, q1, c1⟩ := (h1.out.below hB) i hlt
      obtain ⟨g2, o2, rfl, q2, c2⟩ := (h2.out.below hB) i hlt
      generalize L[i] = y at *
      replace hB := Hid.mk hB
      go_wp2_with fail
      go_quiet (fail)
      go_wp2_with fail
      exact ⟨⟨i + 1, by go_num, by omega, hB.out.trans ((drewN_below _ _).mono hB.out.size)⟩, by simp [intOf]; omega⟩
    · have jl : ¬ (i : Int) < L.length := by omega
      replace hB := Hid.mk hB
      go_wp2_with fail
      go_ret
      exact ⟨rfl, hB.out⟩
set_option maxHeartbeats 1000000 in
theorem tgStore_bad (S : Nat → Prop) (a addr size n : Nat) (b : Nat → UInt8) (t : Nat → Option Cp) (w : World) (h : TgIn S w a b t) (ha : addr < 18446744073709551616) (hs : size < 18446744073709551616) (e : wordB addr size = false) :
    Calls Try.prog 14 #[.pointer (some ⟨a, 0, none⟩), .int .u64 addr, .int .u64 size, .int .u64 n] w fun x w' => x = .returned (.int .i64 60) ∧ Below w.heap.size w w' := by
  have hW := fun W => isWord_any addr size W ha hs
  rw [e] at hW
  replace h := Hid.mk h
  go_enter Try.func14, Try.ntmps14
  go_wp2_with (refine (hW _).mono ?_; rintro x w1 ⟨rfl, rfl⟩)
  go_ret
  exact ⟨rfl, Below.refl _ _⟩
set_option maxHeartbeats 1000000 in
theorem flStore_bad (S : Nat → Prop) (a addr size n : Nat) (b : Nat → UInt8) (w : World) (h : FlIn S w a b) (ha : addr < 18446744073709551616) (hs : size < 18446744073709551616) (e : wordB addr size = false) :
    Calls Try.prog 19 #[.pointer (some ⟨a, 0, none⟩), .int .u64 addr, .int .u64 size, .int .u64 n] w fun x w' => x = .returned (.int .i64 60) ∧ Below w.heap.size w w' := by
  have hW := fun W => isWord_any addr size W ha hs
  rw [e] at hW
  replace h := Hid.mk h
  go_enter Try.func19, Try.ntmps19
  go_wp2_with (refine (hW _).mono ?_; rintro x w1 ⟨rfl, rfl⟩)
  go_ret
  exact ⟨rfl, Below.refl _ _⟩
set_option maxHeartbeats 1000000 in
theorem tgStoreCap_bad (S : Nat → Prop) (a addr : Nat) (b : Nat → UInt8) (t : Nat → Option Cp) (v : Vl) (w : World) (h : TgIn S w a b t) (ha : addr < 18446744073709551616) (e : granB addr = false) :
    Calls Try.prog 27 #[.pointer (some ⟨a, 0, none⟩), .int .u64 addr, v.agg] w fun x w' => x = .returned (.int .i64 60) ∧ Below w.heap.size w w' := by
  have hW := fun W => isGranule_any addr W ha
  rw [e] at hW
  replace h := Hid.mk h
  unfold Vl.agg
  go_enter Try.func27, Try.ntmps27
  go_wp2_with (refine (hW _).mono ?_; rintro x w1 ⟨rfl, rfl⟩)
  go_ret
  exact ⟨rfl, (Below.refl _ w).alloc (Nat.le_refl _) _⟩
end T
end Go.Proofs.Ytbmkefpgfifigaa
