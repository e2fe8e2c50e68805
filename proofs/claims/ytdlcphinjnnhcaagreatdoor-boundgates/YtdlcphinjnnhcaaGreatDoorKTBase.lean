import Derived.Test.YtdlcphinjnnhcaaGreatDoorChecked
import Derived.Test.YtdlcphinjnnhcaaGreatDoorK02
import Derived.WalkKit
import Derived.WalkSpells
import Derived.WalkLawsBesides
import Derived.Laws.Shifts
import Derived.Laws.BitsAllLaws
import Derived.Lib.OthersKept
import Derived.Deep.DeepCutAuto
import Derived.Deep.Light
import Derived.Deep.QuietTactic
import Derived.BigQuiet
import Derived.Deep.RegionWith
import Derived.BigRegion
namespace Go.Proofs.YtdlcphinjnnhcaaGreatDoor
namespace T
open Go.RowKit

structure Hid (p : Prop) : Prop where
 out : p
structure Kp (S : Nat → Prop) (w w' : World) : Prop where
 os : w'.os = w.os
 tape : w'.tape = w.tape
 output : w'.output = w.output
 size : w.heap.size ≤ w'.heap.size
 block : ∀ k, k < w.heap.size → ¬ S k → w'.heap[k]? = w.heap[k]?
theorem Kp.refl (S : Nat → Prop) (w : World) : Kp S w w := ⟨rfl, rfl, rfl, Nat.le_refl _, fun _ _ _ => rfl⟩
theorem Kp.trans {S S1 : Nat → Prop} {w w1 w2 : World} (h : Kp S w w1) (h1 : Kp S1 w1 w2) (hs : ∀ k, S1 k → S k ∨ w.heap.size ≤ k) : Kp S w w2 :=
 ⟨h1.os.trans h.os, h1.tape.trans h.tape, h1.output.trans h.output, Nat.le_trans h.size h1.size, fun k hk hn => (h1.block k (Nat.lt_of_lt_of_le hk h.size) (fun q => by
   rcases hs k q with r | r
   · exact hn r
   · omega)).trans (h.block k hk hn)⟩
theorem Kp.of_below {S : Nat → Prop} {w w1 : World} (h : Below w.heap.size w w1) : Kp S w w1 := ⟨h.os, h.tape, h.output, h.size, fun k hk _ => h.block k hk⟩
theorem Kp.below {S : Nat → Prop} {w w1 : World} {B : Nat} (h : Kp S w w1) (hB : B ≤ w.heap.size) (hs : ∀ k, S k → B ≤ k) : Below B w w1 :=
 ⟨h.os, h.tape, h.output, h.size, fun k hk => h.block k (by omega) (fun q => by have := hs k q; omega)⟩
theorem Kp.mono {S S1 : Nat → Prop} {w w1 : World} (h : Kp S w w1) (hs : ∀ k, S k → S1 k ∨ w.heap.size ≤ k) : Kp S1 w w1 :=
 ⟨h.os, h.tape, h.output, h.size, fun k hk hn => h.block k hk (fun q => by
   rcases hs k q with r | r
   · exact hn r
   · omega)⟩
theorem Kp.drew (S : Nat → Prop) (w : World) : Kp S w w.drew := Kp.of_below (Below.drew (Below.refl _ w))
theorem Kp.alloc (S : Nat → Prop) (w : World) (o : Obj) : Kp S w (w.alloc o) := Kp.of_below ((Below.refl _ w).alloc (Nat.le_refl _) o)
theorem heap_set (w : World) (a : Addr) (v : Value) (k : Nat) (h : a.block ≠ k) : (w.setCell a v).heap[k]? = w.heap[k]? := by
 unfold World.setCell
 simp [Array.getElem?_modify, h]
theorem Kp.set {S : Nat → Prop} (w : World) (a : Addr) (v : Value) (h : S a.block) : Kp S w (w.setCell a v) :=
 ⟨rfl, rfl, rfl, by simp, fun k _ hn => heap_set w a v k (fun e => hn (e ▸ h))⟩
theorem cell_of_block {w w' : World} {k : Nat} (h : w'.heap[k]? = w.heap[k]?) (o : Nat) : w'.cell? ⟨k, o, none⟩ = w.cell? ⟨k, o, none⟩ := by
 simp only [World.cell?, h]
theorem frozen_of_block {w w' : World} {k : Nat} (h : w'.heap[k]? = w.heap[k]?) (o : Nat) : w'.frozen? ⟨k, o, none⟩ = w.frozen? ⟨k, o, none⟩ := by
 simp only [World.frozen?, h]
theorem cso {w : World} {k o k' o' : Nat} {v : Value} (h : k = k' → o ≠ o') : (w.setCell ⟨k, o, none⟩ v).cell? ⟨k', o', none⟩ = w.cell? ⟨k', o', none⟩ :=
 World.cell?_setCell_other (w := w) (a := ⟨k, o, none⟩) (v := v) (b := ⟨k', o', none⟩) (by simp; exact h)
end T
end Go.Proofs.YtdlcphinjnnhcaaGreatDoor
