import Derived.Test.YtdlcphinjnnhcaaGreatDoorK02
import Derived.Deep.AppendLies
namespace Go.Proofs.YtdlcphinjnnhcaaGreatDoor
open Go.RowKit

structure Ins where
 op : Int
 a : Int
 b : Int
 c : Int
 m : Int
def Ins.vals (k : Ins) : List Value := [.int .u8 k.op, .int .i64 k.a, .int .i64 k.b, .int .i64 k.c, .int .i64 k.m]
def Five (w : World) (b off : Nat) (k : Ins) : Prop :=
 w.cell? ⟨b, off, none⟩ = some (.int .u8 k.op) ∧ w.cell? ⟨b, off + 1, none⟩ = some (.int .i64 k.a) ∧ w.cell? ⟨b, off + 1 + 1, none⟩ = some (.int .i64 k.b) ∧ w.cell? ⟨b, off + 1 + 1 + 1, none⟩ = some (.int .i64 k.c) ∧ w.cell? ⟨b, off + 1 + 1 + 1 + 1, none⟩ = some (.int .i64 k.m)
theorem Five.below {w w1 : World} {B b off : Nat} {k : Ins} (h : Five w b off k) (hb : Below B w w1) (hlt : b < B) : Five w1 b off k :=
 ⟨(hb.cell (p := ⟨b, _, none⟩) hlt).trans h.1, (hb.cell (p := ⟨b, _, none⟩) hlt).trans h.2.1, (hb.cell (p := ⟨b, _, none⟩) hlt).trans h.2.2.1, (hb.cell (p := ⟨b, _, none⟩) hlt).trans h.2.2.2.1, (hb.cell (p := ⟨b, _, none⟩) hlt).trans h.2.2.2.2⟩
def LIn (B : Nat) (w : World) (a : Option Addr) (L : List Ins) : Prop := ∀ i (h : i < L.length), ∃ b off : Nat, a = some ⟨b, off, none⟩ ∧ b < B ∧ b < w.heap.size ∧ Five w b (off + i * 5) L[i]
theorem LIn.below {B : Nat} {w w1 : World} {a : Option Addr} {L : List Ins} (h : LIn B w a L) (hb : Below B w w1) : LIn B w1 a L := fun i hi => by
 obtain ⟨b, off, ha, h1, h2, h3⟩ := h i hi
 exact ⟨b, off, ha, h1, Nat.lt_of_lt_of_le h2 hb.size, h3.below hb h1⟩
theorem LIn.mono {B B' : Nat} {w : World} {a : Option Addr} {L : List Ins} (h : LIn B w a L) (hb : B ≤ B') : LIn B' w a L := fun i hi => by
 obtain ⟨b, off, ha, h1, h2, h3⟩ := h i hi
 exact ⟨b, off, ha, Nat.lt_of_lt_of_le h1 hb, h2, h3⟩
theorem Below.of_grown {B : Nat} {w w1 : World} {row : Option Nat} (h : w.grownBy w1 row) (hB : B ≤ w.heap.size) (hr : ∀ g, row = some g → B ≤ g) : Below B w w1 :=
 ⟨h.os, h.tape, h.output, h.size, fun k hk => h.block k (Nat.lt_of_lt_of_le hk hB) (fun e => by have := hr k e.symm; omega)⟩
theorem own_below {w w1 : World} {base e size n : Nat} {v : Value} {xs : List Value} (h : w.ownsRow base e size v n xs) (hb : Below w.heap.size w w1) : w1.ownsRow base e size v n xs := by
 refine ⟨h.1, ?_⟩
 rcases h.2 with h2 | ⟨g, cap, cur, hv, hbg, hg, rest⟩
 · exact .inl h2
 · have hlt : g < w.heap.size := (Array.getElem?_eq_some_iff.1 hg).1
   exact .inr ⟨g, cap, cur, hv, hbg, (hb.block g hlt).trans hg, rest⟩
end Go.Proofs.YtdlcphinjnnhcaaGreatDoor


namespace Go.Proofs.YtdlcphinjnnhcaaGreatDoor
open Go.RowKit

end Go.Proofs.YtdlcphinjnnhcaaGreatDoor


namespace Go.Proofs.YtdlcphinjnnhcaaGreatDoor
set_option maxRecDepth 100000
set_option maxHeartbeats 40000000
open Go.RowKit

theorem str_list (l : List UInt8) : (str l).toList = l := by
 rw [ByteArray.toList_eq]; rfl
theorem Right_any (op a b c m : Int) (w : World) (ht : TabIn w) (h0 : 0 ≤ op) (h1 : op < 256) :
   Calls Tryz.prog 84 #[.agg #[.int .u8 op, .int .i64 a, .int .i64 b, .int .i64 c, .int .i64 m]] w fun x w' => x = .returned (.int .i64 (rightF op a b c m)) ∧ Gr w w' := by
 have hn := Name_any op (w.alloc (.cells #[.int .u8 op, .int .i64 a, .int .i64 b, .int .i64 c, .int .i64 m] 41)) (ht.gr ((Gr.refl w).alloc _)) h0 h1
 have hf := fieldsRight_any op a b c m (w.alloc (.cells #[.int .u8 op, .int .i64 a, .int .i64 b, .int .i64 c, .int .i64 m] 41)) (ht.gr ((Gr.refl w).alloc _)) h0 h1
 unfold rightF
 generalize fR op (shapeOf op) 0 a b c m = ok at *
 generalize nameOf op = nm at *
 have sl := str_list
 by_cases hm : nm = []
 · subst hm
   rw [if_pos rfl]
   go_enter Tryz.func84, Tryz.ntmps84
   go_wp2_with (go_at_call 100; refine hn.mono ?_; rintro x w' ⟨rfl, rfl⟩)
   go_ret
   exact ⟨rfl, (Gr.refl w).alloc _⟩
 · rw [if_neg hm]
   have hq : nm.isEmpty = false := by simpa using hm
   cases ok with
   | true =>
     go_enter Tryz.func84, Tryz.ntmps84
     go_wp2_with (first | (go_at_call 100; refine hn.mono ?_; rintro x w' ⟨rfl, rfl⟩) | (go_at_call 101; refine hf.mono ?_; rintro x w' ⟨rfl, hG⟩))
     go_ret
     exact ⟨rfl, hG.of_alloc⟩
   | false =>
     go_enter Tryz.func84, Tryz.ntmps84
     go_wp2_with (first | (go_at_call 100; refine hn.mono ?_; rintro x w' ⟨rfl, rfl⟩) | (go_at_call 101; refine hf.mono ?_; rintro x w' ⟨rfl, hG⟩))
     go_ret
     exact ⟨rfl, hG.of_alloc⟩
end Go.Proofs.YtdlcphinjnnhcaaGreatDoor


namespace Go.Proofs.YtdlcphinjnnhcaaGreatDoor
open Go.RowKit

def Ins.right (k : Ins) : Int := rightF k.op k.a k.b k.c k.m
def OpsIn (L : List Ins) : Prop := ∀ k ∈ L, 0 ≤ k.op ∧ k.op < 256
def maxI : Nat := 3518437208883
end Go.Proofs.YtdlcphinjnnhcaaGreatDoor
