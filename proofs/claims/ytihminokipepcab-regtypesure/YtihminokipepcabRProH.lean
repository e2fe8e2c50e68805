/-
  Stage 9, regtype: the program's Int, Has.
-/
import Derived.Test.YtihminokipepcabRProB
import Derived.Test.YtihminokipepcabRRefH
import Derived.Test.YtihminokipepcabRRefE
namespace Go.Proofs.Ytihminokipepcab
namespace R
open Go.RowKit

theorem vv_of (v : Vv) : v = ⟨v.tag, v.n, v.c⟩ := rfl
set_option maxHeartbeats 2000000 in
theorem pInt_any (s : Sp) (w : World) (h : s.u64) : Calls Try.prog 9 #[.agg #[.int .u64 s.lo, .int .u64 s.hi]] w fun x w' => x = .returned (mkInt s).rt.agg ∧ Gr w w' := by
  have hN := T.Hid.mk (fun W => pKnown_any ⟨1, s, Sp.no, Sp.no, Sp.no, 0, 0, 0⟩ W ⟨h, no_u64, no_u64, no_u64, show (0 : Nat) < 256 by decide, show (0 : Nat) < 256 by decide⟩)
  rw [nm_int] at hN
  clear h
  generalize (mkInt s).rt = r at *
  obtain ⟨k0, ⟨n10, n20⟩, ⟨b10, b20⟩, ⟨e10, e20⟩, ⟨p10, p20⟩, mu0, ma0, s0⟩ := r
  simp only [RT.agg, Sp.no, Int.cast_ofNat_Int] at hN ⊢
  have L1 := grow_cell
  have L2 := grow_frozen
  have L3 := grow_set
  have L4 := grow_lt
  have L5 := glt1
  have L6 := glt2
  have L7 := glt3
  have L8 := lt1
  have L9 := lt2
  have L10 := lt3
  have L11 := lt4
  go_enter Try.func9, Try.ntmps9
  go_wp2_with (go_at_call 21; refine (hN.out _).mono ?_; rintro x w' ⟨rfl, l, rfl⟩; (try (rw [← grow_app]; generalize _ ++ l = lm)))
  clear hN
  simp [bodyPost, results, Try.results9, go_sem, *]
  repeat (first | exact Gr.refl _ | refine Gr.alloc ?_ _ | refine Gr.grow ?_ _ | refine Gr.drew ?_)
def Kc.agg' (c : Kc) : Value := .agg #[.int .u64 c.b, .int .u64 c.e, .int .u64 c.c, .int .u8 c.pm, .int .i64 c.s]
def hasC (r : RT) (c : Kc) : Bool := r.b.has c.b && r.e.has c.e && r.p.has c.c && amI r.mu c.pm && amI c.pm r.ma && swB c.s r.s
theorem hasC_eq {b e p : Sp} {mu ma : Nat} {s : Int} {v : Vv} (h : -1 ≤ s) : (v.tag && hasC (RV.cap b e p mu ma s).rt v.c) = (RV.cap b e p mu ma s).has v := by
  simp only [hasC, RV.rt, RV.has, amI_nat, swB_eq h]
  rw [show (v.c.s == s) = (s == v.c.s) from Bool.eq_iff_iff.2 ⟨fun q => by simp at *; exact q.symm, fun q => by simp at *; exact q.symm⟩]
  simp only [Bool.and_assoc]
end R
end Go.Proofs.Ytihminokipepcab
