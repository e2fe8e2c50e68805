import Derived.Test.YtimiofkiadlnbaaTNew
/-
  Stage 6, tagmem: Tags; the document's first example.
-/
namespace Go.Proofs.Ytimiofkiadlnbaa
namespace T
open Go.RowKit

def exV : Vl := ⟨true, 0, ⟨0, 9, 258, 0, 0⟩⟩
theorem exLoad : ldV (scB (fun _ => 0) 32 exV) 33 1 = 1 ∧ ldE 33 1 = 0 ∧ lcE 32 = 0 := by decide
end T
end Go.Proofs.Ytimiofkiadlnbaa


/-
  Stage 6, tagmem: a memory with tags and one without, written to alike.
-/
namespace Go.Proofs.Ytimiofkiadlnbaa
namespace T
open Go.RowKit

structure Two (S : Nat → Prop) (w : World) (a f : Nat) (b1 b2 : Nat → UInt8) (t : Nat → Option Cp) : Prop where
  go : ∃ P F, TgIn P w a b1 t ∧ FlIn F w f b2 ∧ (∀ k, P k → ¬ F k) ∧ ∀ k, S k ↔ P k ∨ F k
theorem Two.lt {S : Nat → Prop} {w : World} {a f : Nat} {b1 b2 : Nat → UInt8} {t : Nat → Option Cp} (h : Two S w a f b1 b2 t) : ∀ k, S k → k < w.heap.size := by
  obtain ⟨P, F, h1, h2, h3, h4⟩ := h.go
  intro k q
  rcases (h4 k).1 q with r | r
  · exact h1.lt k r
  · exact h2.lt k r
theorem Two.keep {S S1 : Nat → Prop} {w w' : World} {a f : Nat} {b1 b2 : Nat → UInt8} {t : Nat → Option Cp} (h : Two S w a f b1 b2 t) (hk : Kp S1 w w') (hd : ∀ k, S k → ¬ S1 k) : Two S w' a f b1 b2 t := by
  obtain ⟨P, F, h1, h2, h3, h4⟩ := h.go
  exact ⟨P, F, h1.keep hk (fun k q => hd k ((h4 k).2 (.inl q))), h2.keep hk (fun k q => hd k ((h4 k).2 (.inr q))), h3, h4⟩
theorem Two.gr {S : Nat → Prop} {w w' : World} {a f : Nat} {b1 b2 : Nat → UInt8} {t : Nat → Option Cp} (h : Two S w a f b1 b2 t) (hb : Below w.heap.size w w') : Two S w' a f b1 b2 t := h.keep (S1 := fun _ => False) (Kp.of_below hb) (fun _ _ q => q)
theorem Two.onT {S : Nat → Prop} {w : World} {a f : Nat} {b1 b2 b1' : Nat → UInt8} {t t' : Nat → Option Cp} (h : Two S w a f b1 b2 t) {fn : Nat} {args : Array Value} {r : Ending}
    (hc : ∀ P, TgIn P w a b1 t → Calls Try.prog fn args w fun x w' => x = r ∧ ∃ P', TgIn P' w' a b1' t' ∧ Mf P P' w w') : Calls Try.prog fn args w fun x w' => x = r ∧ ∃ S', Two S' w' a f b1' b2 t' ∧ Mf S S' w w' := by
  obtain ⟨P, F, h1, h2, h3, h4⟩ := h.go
  refine (hc P h1).mono ?_
  rintro x w' ⟨rfl, P', g1, g2⟩
  refine ⟨rfl, fun k => P' k ∨ F k, ⟨P', F, g1, h2.keep g2.kp (fun k q r => h3 k r q), fun k q r => ?_, fun k => Iff.rfl⟩, fun k q => ?_, fun k q => ?_, g2.kp.mono (fun k q => .inl ((h4 k).2 (.inl q)))⟩
  · rcases g2.new k q with s | s
    · exact h3 k s r
    · have := h2.lt k r; omega
  · rcases (h4 k).1 q with s | s
    · exact .inl (g2.up k s)
    · exact .inr s
  · rcases q with q | q
    · rcases g2.new k q with s | s
      · exact .inl ((h4 k).2 (.inl s))
      · exact .inr s
    · exact .inl ((h4 k).2 (.inr q))
theorem Two.onF {S : Nat → Prop} {w : World} {a f : Nat} {b1 b2 b2' : Nat → UInt8} {t : Nat → Option Cp} (h : Two S w a f b1 b2 t) {fn : Nat} {args : Array Value} {r : Ending}
    (hc : ∀ P, FlIn P w f b2 → Calls Try.prog fn args w fun x w' => x = r ∧ ∃ P', FlIn P' w' f b2' ∧ Mf P P' w w') : Calls Try.prog fn args w fun x w' => x = r ∧ ∃ S', Two S' w' a f b1 b2' t ∧ Mf S S' w w' := by
  obtain ⟨P, F, h1, h2, h3, h4⟩ := h.go
  refine (hc F h2).mono ?_
  rintro x w' ⟨rfl, F', g1, g2⟩
  refine ⟨rfl, fun k => P k ∨ F' k, ⟨P, F', h1.keep g2.kp (fun k q r => h3 k q r), g1, fun k q r => ?_, fun k => Iff.rfl⟩, fun k q => ?_, fun k q => ?_, g2.kp.mono (fun k q => .inl ((h4 k).2 (.inr q)))⟩
  · rcases g2.new k r with s | s
    · exact h3 k q s
    · have := h1.lt k q; omega
  · rcases (h4 k).1 q with s | s
    · exact .inl s
    · exact .inr (g2.up k s)
  · rcases q with q | q
    · exact .inl ((h4 k).2 (.inl q))
    · rcases g2.new k q with s | s
      · exact .inl ((h4 k).2 (.inr s))
      · exact .inr s
theorem Two.tg {S : Nat → Prop} {w : World} {a f : Nat} {b1 b2 : Nat → UInt8} {t : Nat → Option Cp} (h : Two S w a f b1 b2 t) : ∃ P, TgIn P w a b1 t ∧ ∀ k, P k → S k := by
  obtain ⟨P, F, h1, h2, h3, h4⟩ := h.go
  exact ⟨P, h1, fun k q => (h4 k).2 (.inl q)⟩
theorem Two.fl {S : Nat → Prop} {w : World} {a f : Nat} {b1 b2 : Nat → UInt8} {t : Nat → Option Cp} (h : Two S w a f b1 b2 t) : ∃ P, FlIn P w f b2 ∧ ∀ k, P k → S k := by
  obtain ⟨P, F, h1, h2, h3, h4⟩ := h.go
  exact ⟨F, h2, fun k q => (h4 k).2 (.inr q)⟩
/-- Which of n things a raw number speaks of. -/
def pk (c : Int) (n : Nat) : Nat := ((if c < 0 then -(c + 1) else c) % n).toNat
theorem pk_lt (c : Int) (n : Nat) (h : 0 < n) : pk c n < n := by
  unfold pk
  have := Int.emod_lt_of_pos (if c < 0 then -(c + 1) else c) (show (0 : Int) < n by omega)
  have := Int.emod_nonneg (if c < 0 then -(c + 1) else c) (show (n : Int) ≠ 0 by omega)
  omega
def I64 (x : Int) : Prop := -9223372036854775808 ≤ x ∧ x < 9223372036854775808
def U64 (x : Int) : Prop := 0 ≤ x ∧ x < 18446744073709551616
end T
end Go.Proofs.Ytimiofkiadlnbaa


/-
  Stage 6, tagmem: the statements' writes.
-/
namespace Go.Proofs.Ytimiofkiadlnbaa
namespace T
open Go.RowKit

/-- Something that is written. -/
structure Wr where
  a : Int
  k : Int
  n : Nat
  c : Cp
structure Cp.Ok (c : Cp) : Prop where
  rb : U64 c.b
  re : U64 c.e
  rc : U64 c.c
  rp : 0 ≤ c.p ∧ c.p < 256
  rs : I64 c.s
structure Wr.Ok (x : Wr) : Prop where
  ra : I64 x.a
  rk : I64 x.k
  rn : x.n < 18446744073709551616
  rc : x.c.Ok
def Wr.cells (x : Wr) : Array Value := #[.int .i64 x.a, .int .i64 x.k, .int .u64 x.n, .int .u64 x.c.b, .int .u64 x.c.e, .int .u64 x.c.c, .int .u8 x.c.p, .int .i64 x.c.s]
def Wr.at (x : Wr) : Nat := pk x.a 65536
def Wr.kind (x : Wr) : Nat := pk x.k 4
def Wr.place (x : Wr) : Nat := x.at / 16 * 16
def Wr.low (x : Wr) : Nat := if x.at ≤ 65528 then x.at else 65528
def Wr.val (x : Wr) : Vl := if x.kind = 2 then ⟨true, 0, x.c⟩ else ⟨false, x.n, Cp.zero⟩
/-- The bytes, when it is written. -/
def wrB (b : Nat → UInt8) (x : Wr) : Nat → UInt8 :=
  if x.kind = 0 then stB b x.at 1 x.n else if x.kind = 1 then stB b x.low 8 x.n else scB b x.place x.val
def wrT (t : Nat → Option Cp) (x : Wr) : Nat → Option Cp :=
  if x.kind = 0 then stT t x.at 1 else if x.kind = 1 then stT t x.low 8 else scT t x.place x.val
theorem word1 {a : Nat} (h : a < 65536) : wordB a 1 = true := by simp [wordB]; omega
theorem word8 {a : Nat} (h : a ≤ 65528) : wordB a 8 = true := by simp [wordB]; omega
theorem gran {a : Nat} (h : a < 65536) : granB (a / 16 * 16) = true := by simp [granB]; omega
theorem scB_two (b : Nat → UInt8) (p : Nat) (v : Vl) (hp : p ≤ 65520) (hg : granB p = true) : stB (stB b p 8 v.num) (p + 8) 8 0 = scB b p v := by
  unfold stB scB
  rw [word8 (by omega), word8 (by omega), hg]
  rfl
end T
end Go.Proofs.Ytimiofkiadlnbaa
