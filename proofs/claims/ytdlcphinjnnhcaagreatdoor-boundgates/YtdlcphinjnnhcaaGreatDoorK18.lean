import Derived.Test.YtdlcphinjnnhcaaGreatDoorK17
namespace Go.Proofs.YtdlcphinjnnhcaaGreatDoor
namespace F
open Go.RowKit
open T

theorem boolA_at {w : World} {g n : Nat} {f : Nat → Bool} (h : At w g (boolA n f)) (k : Nat) (hk : k < n) : w.cell? ⟨g, k, none⟩ = some (.bool (f k)) := by
 rw [h.2.1]
 simp [boolA, hk]
end F
end Go.Proofs.YtdlcphinjnnhcaaGreatDoor


namespace Go.Proofs.YtdlcphinjnnhcaaGreatDoor
namespace F
open Go.RowKit
open T

theorem boolA_put {w : World} {g n : Nat} {f f' : Nat → Bool} (h : At w g (boolA n f)) (k : Nat) (b : Bool) (hk : k < n) (hf : ∀ q, q < n → f' q = if q = k then b else f q) : At (w.setCell ⟨g, k, none⟩ (.bool b)) g (boolA n f') := by
 have := h.set k (.bool b) (by simpa [boolA] using hk)
 have e : (boolA n f).setIfInBounds k (.bool b) = boolA n f' := by
   apply Array.ext_getElem?
   intro q
   by_cases hq : q = k
   · subst hq
     simp [boolA, hk, hf q hk]
   · rw [Array.getElem?_setIfInBounds_ne (fun r => hq r.symm)]
     by_cases hl : q < n
     · simp [boolA, hl, hf q hl, hq]
     · simp [boolA, hl]
 rw [e] at this
 exact this
theorem boolA_new (w : World) (n : Nat) (t : TypeId) : At (w.alloc (.cells (Array.replicate n (.bool false)) t)) w.heap.size (boolA n fun _ => false) := by
 have := At.new w (Array.replicate n (.bool false)) t
 have e : Array.replicate n (Value.bool false) = boolA n fun _ => false := by
   apply Array.ext_getElem?
   intro q
   by_cases hl : q < n
   · simp [boolA, hl]
   · simp [boolA, hl]
 rw [← e]
 exact this
end F
end Go.Proofs.YtdlcphinjnnhcaaGreatDoor


namespace Go.Proofs.YtdlcphinjnnhcaaGreatDoor
namespace F
open Go.RowKit
open T

theorem take_snoc (N : List Int) (k : Nat) (hk : k < N.length) : N.take (k + 1) = N.take k ++ [N[k]] := by
 rw [List.take_add_one, List.getElem?_eq_getElem hk, Option.toList_some]
end F
end Go.Proofs.YtdlcphinjnnhcaaGreatDoor


namespace Go.Proofs.YtdlcphinjnnhcaaGreatDoor
namespace F
open Go.RowKit
open T

theorem op_cases (op : Int) : op = 20 ∨ op = 21 ∨ op = 22 ∨ op = 23 ∨ op = 24 ∨ op = 26 ∨ op = 27 ∨ op = 28 ∨ op = 32 ∨ ((op == 20) = false ∧ (op == 21) = false ∧ (op == 22) = false ∧ (op == 23) = false ∧ (op == 24) = false ∧ (op == 26) = false ∧ (op == 27) = false ∧ (op == 28) = false ∧ (op == 32) = false ∧ wayN op = 0) := by
 by_cases h : op = 20 ∨ op = 21 ∨ op = 22 ∨ op = 23 ∨ op = 24 ∨ op = 26 ∨ op = 27 ∨ op = 28 ∨ op = 32
 · rcases h with h | h | h | h | h | h | h | h | h <;> simp [h]
 · simp only [not_or] at h
   obtain ⟨h1, h2, h3, h4, h5, h6, h7, h8, h9⟩ := h
   have e0 : wayN op = 0 := by simp [wayN, *]
   simp [h1, h2, h3, h4, h5, h6, h7, h8, h9, e0]
end F
end Go.Proofs.YtdlcphinjnnhcaaGreatDoor
