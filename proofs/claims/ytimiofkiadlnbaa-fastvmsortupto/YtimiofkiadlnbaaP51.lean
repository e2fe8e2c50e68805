import Derived.Test.YtimiofkiadlnbaaTNew
/-
  Stage 6, tagmem: Tags; the document's first example.
-/
namespace Go.Proofs.Ytimiofkiadlnbaa
namespace T
open Go.RowKit

def exV : Vl := ⟨true, 0, ⟨0, 9, 258, 0, 0⟩⟩
theorem exLoad : ldV (scB (fun _ => 0) 32 exV) 33 1 = 1 ∧ ldE 33 1 = 0 ∧ lcE 32 = 0 := by decide
end T
end Go.Proofs.Ytimiofkiadlnbaa


/-
  Stage 6, tagmem: a memory with tags and one without, written to alike.
-/
namespace Go.Proofs.Ytimiofkiadlnbaa
namespace T
open Go.RowKit

structure Two (S : Nat → Prop) (w : World) (a f : Nat) (b1 b2 : Nat → UInt8) (t : Nat → Option Cp) : Prop where
  go : ∃ P F, TgIn P w a b1 t ∧ FlIn F w f b2 ∧ (∀ k, P k → ¬ F k) ∧ ∀ k, S k ↔ P k ∨ F k
theorem Two.lt {S : Nat → Prop} {w : World} {a f : Nat} {b1 b2 : Nat → UInt8} {t : Nat → Option Cp} (h : Two S w a f b1 b2 t) : ∀ k, S k → k < w.heap.size := by
  obtain ⟨P, F, h1, h2, h3, h4⟩ := h.go
  intro k q
  rcases (h4 k).1 q with r | r
  · exact h1.lt k r
  · exact h2.lt k r
theorem Two.keep {S S1 : Nat → Prop} {w w' : World} {a f : Nat} {b1 b2 : Nat → UInt8} {t : Nat → Option Cp} (h : Two S w a f b1 b2 t) (hk : Kp S1 w w') (hd : ∀ k, S k → ¬ S1 k) : Two S w' a f b1 b2 t := by
  obtain ⟨P, F, h1, h2, h3, h4⟩ := h.go
  exact ⟨P, F, h1.keep hk (fun k q => hd k ((h4 k).2 (.inl q))), h2.keep hk (fun k q => hd k ((h4 k).2 (.inr q))), h3, h4⟩
theorem Two.gr {S : Nat → Prop} {w w' : World} {a f : Nat} {b1 b2 : Nat → UInt8} {t : Nat → Option Cp} (h : Two S w a f b1 b2 t) (hb : Below w.heap.size w w') : Two S w' a f b1 b2 t := h.keep (S1 := fun _ => False) (Kp.of_below hb) (fun _ _ q => q)
theorem Two.onT {S : Nat → Prop} {w : World} {a f : Nat} {b1 b2 b1' : Nat → UInt8} {t t' : Nat → Option Cp} (h : Two S w a f b1 b2 t) {fn : Nat} {args : Array Value} {r : Ending}
    (hc : ∀ P, TgIn P w a b1 t → Calls Try.prog fn args w fun x w' => x = r ∧ ∃ P', TgIn P' w' a b1' t' ∧ Mf P P' w w') : Calls Try.prog fn args w fun x w' => x = r ∧ ∃ S', Two S' w' a f b1' b2 t' ∧ Mf S S' w w' := by
  obtain ⟨P, F, h1, h2, h3, h4⟩ := h.go
  refine (hc P h1).mono ?_
  rintro x w' ⟨rfl, P', g1, g2⟩
  refine ⟨rfl, fun k => P' k ∨ F k, ⟨P', F, g1, h2.keep g2.kp (fun k q r => h3 k r q), fun k q r => ?_, fun k => Iff.rfl⟩, fun k q => ?_, fun k q => ?_, g2.kp.mono (fun k q => .inl ((h4 k).2 (.inl q)))⟩
  · rcases g2.new k q with s | s
    · exact h3 k s r
    · have := h2.lt k r; omega
  · rcases (h4 k).1 q with s | s
    · exact .inl (g2.up k s)
    · exact .inr s
  · rcases q with q | q
    · rcases g2.new k q with s | s
      · exact .inl ((h4 k).2 (.inl s))
      · exact .inr s
    · exact .inl ((h4 k).2 (.inr q))
theorem Two.onF {S : Nat → Prop} {w : World} {a f : Nat} {b1 b2 b2' : Nat → UInt8} {t : Nat → Option Cp} (h : Two S w a f b1 b2 t) {fn : Nat} {args : Array Value} {r : Ending}
    (hc : ∀ P, FlIn P w f b2 → Calls Try.prog fn args w fun x w' => x = r ∧ ∃ P', FlIn P' w' f b2' ∧ Mf P P' w w') : Calls Try.prog fn args w fun x w' => x = r ∧ ∃ S', Two S' w' a f b1 b2' t ∧ Mf S S' w w' := by
  obtain ⟨P, F, h1, h2, h3, h4⟩ := h.go
  refine (hc F h2).mono ?_
  rintro x w' ⟨rfl, F', g1, g2⟩
  refine ⟨rfl, fun k => P k ∨ F' k, ⟨P, F', h1.keep g2.kp (fun k q r => h3 k q r), g1, fun k q r => ?_, fun k => Iff.rfl⟩, fun k q => ?_, fun k q => ?_, g2.kp.mono (fun k q => .inl ((h4 k).2 (.inr q)))⟩
  · rcases g2.new k r with s | s
    · exact h3 k q s
    · have := h1.lt k q; omega
  · rcases (h4 k).1 q with s | s
    · exact .inl s
    · exact .inr (g2.up k s)
  · rcases q with q | q
    · exact .inl ((h4 k).2 (.inl q))
    · rcases g2.new k q with s | s
      · exact .inl ((h4 k).2 (.inr s))
      · exact .inr s
theorem Two.tg {S : Nat → Prop} {w : World} {a f : Nat} {b1 b2 : Nat → UInt8} {t : Nat → Option Cp} (h : Two S w a f b1 b2 t) : ∃ P, TgIn P w a b1 t ∧ ∀ k, P k → S k := by
  obtain ⟨P, F, h1, h2, h3, h4⟩ := h.go
  exact ⟨P, h1, fun k q => (h4 k).2 (.inl q)⟩
theorem Two.fl {S : Nat → Prop} {w : World} {a f : Nat} {b1 b2 : Nat → UInt8} {t : Nat → Option Cp} (h : Two S w a f b1 b2 t) : ∃ P, FlIn P w f b2 ∧ ∀ k, P k → S k := by
  obtain ⟨P, F, h1, h2, h3, h4⟩ := h.go
  exact ⟨F, h2, fun k q => (h4 k).2 (.inr q)⟩
/-- Which of n things a raw number speaks of. -/
def pk (c : Int) (n : Nat) : Nat := ((if c < 0 then -(c + 1) else c) % n).toNat
theorem pk_lt (c : Int) (n : Nat) (h : 0 < n) : pk c n < n := by
  unfold pk
  have := Int.emod_lt_of_pos (if c < 0 then -(c + 1) else c) (show (0 : Int) < n by omega)
  have := Int.emod_nonneg (if c < 0 then -(c + 1) else c) (show (n : Int) ≠ 0 by omega)
  omega
def I64 (x : Int) : Prop := -9223372036854775808 ≤ x ∧ x < 9223372036854775808
def U64 (x : Int) : Prop := 0 ≤ x ∧ x < 18446744073709551616
end T
end Go.Proofs.Ytimiofkiadlnbaa
