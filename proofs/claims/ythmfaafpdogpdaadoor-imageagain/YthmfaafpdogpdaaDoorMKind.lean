/-
  Stage 4, image: the writer's kind, kinds.
-/
import Derived.Test.YthmfaafpdogpdaaDoorMPut
namespace Go.Proofs.YthmfaafpdogpdaaDoor
open Go.RowKit

def u64 (n : Int) : Int := n % 18446744073709551616
theorem u64_in (n : Int) : W64 (u64 n) := by unfold W64 u64; omega
theorem wrap_u64' (n : Int) : IntKind.u64.wrap n = u64 n := IntKind.wrap_u64 n
theorem u64_self {n : Int} (h : W64 n) : IntKind.u64.wrap n = n := by rw [IntKind.wrap_u64]; unfold W64 at h; omega
theorem b8_w {n : Int} (h : B8 n) : W64 n := by unfold B8 W64 at *; omega
/-- A type's bytes. -/
def typB (t : PTyp) : List UInt8 := if t.cap then putB 1 [1] ++ putB 8 [t.b, t.e, t.lo, t.hi] ++ putB 1 [t.p, u64 t.s] else putB 1 [0]
def typsB : List PTyp → List UInt8
  | [] => []
  | t :: l => typB t ++ typsB l
theorem Box.next (w : World) (o : Obj) (cs : Array Value) (t : TypeId) : Box ((w.alloc o).alloc (.cells cs t)) (w.heap.size + 1) cs t := by
  have := Box.new (w.alloc o) cs t
  rwa [World.size_alloc] at this
set_option maxHeartbeats 2000000 in
theorem kind_any (t : PTyp) (base kw : Nat) (B : List UInt8) (w : World) (h : WBox w base kw B) (ht : t.Rng) (hlen : B.length + (typB t).length ≤ 140737488355328) :
    Calls Tryd.prog 81 #[.pointer (some ⟨kw, 0, none⟩), .agg #[.bool t.cap, .int .u64 t.b, .int .u64 t.e, .int .u64 t.lo, .int .u64 t.hi, .int .u8 t.p, .int .i64 t.s]] w fun x w' => x = .returned (.tuple #[]) ∧ WBox w' base kw (B ++ typB t) ∧ Wrote base w w' := by
  obtain ⟨t1, t2, t3, t4, t5, t6⟩ := ht
  have hbs := h.lt
  have e1 := u64_self (b8_w t5)
  have e2 := wrap_u64' t.s
  have u2 := u64_in t.s
  generalize hs' : u64 t.s = s' at *
  cases hc : t.cap with
  | false =>
    have e : typB t = putB 1 [0] := by simp [typB, hc]
    rw [e] at hlen ⊢
    go_enter Tryd.func81, Tryd.ntmps81
    go_wp2_with fail
    refine (put_any 1 [0] (w.heap.size + 1) 1 base kw B _ (h.below (((Gr.refl w).alloc _).alloc _).below) (Box.next _ _ _ _) (by simp [W64]) (by omega) (by simpa [putB_length] using hlen) (by simp)).mono ?_
    rintro x w1 ⟨rfl, hW, hWr⟩
    replace hWr := (Wrote.gr (((Gr.refl w).alloc _).alloc _) hbs).trans hWr
    go_wp2_with fail
    simp [bodyPost, results, Tryd.results81, go_sem]
    exact ⟨hW, hWr⟩
  | true =>
    have e : typB t = putB 1 [1] ++ putB 8 [t.b, t.e, t.lo, t.hi] ++ putB 1 [t.p, s'] := by simp [typB, hc, hs']
    rw [e] at hlen ⊢
    simp only [List.length_append, putB_length, List.length_cons, List.length_nil] at hlen
    go_enter Tryd.func81, Tryd.ntmps81
    go_wp2_with fail
    refine (put_any 1 [1] (w.heap.size + 1) 1 base kw B _ (h.below (((Gr.refl w).alloc _).alloc _).below) (Box.next _ _ _ _) (by simp [W64]) (by omega) (by simp; omega) (by simp)).mono ?_
    rintro x w1 ⟨rfl, hW, hWr⟩
    have X1 := hWr.keep _ _ _ (by decide) (by decide) ((Box.new w #[.bool true, .int .u64 t.b, .int .u64 t.e, .int .u64 t.lo, .int .u64 t.hi, .int .u8 t.p, .int .i64 t.s] 54).alloc _)
    replace hWr := (Wrote.gr (((Gr.refl w).alloc _).alloc _) hbs).trans hWr
    have hs1 := hWr.size
    have ⟨z1, p1, _⟩ := X1.at
    replace X1 := Hid.mk X1
    go_wp2_with fail
    refine (put_any 8 [t.b, t.e, t.lo, t.hi] w1.heap.size 4 base kw _ _ (hW.below ((Gr.refl w1).alloc _).below) (Box.new _ _ _) (by simp; exact ⟨t1, t2, t3, t4⟩) (by omega) (by simp [putB_length]; omega) (by simp)).mono ?_
    rintro x w2 ⟨rfl, hW2, hWr2⟩
    clear z1 p1
    replace X1 := Hid.mk (hWr2.keep _ _ _ (by decide) (by decide) (X1.out.alloc _))
    replace hWr := hWr.trans ((Wrote.gr ((Gr.refl w1).alloc _) (by omega)).trans hWr2)
    have hs2 := hWr.size
    clear hWr2 hW
    have ⟨z1, p1, _⟩ := X1.out.at
    go_wp2_with fail
    refine (put_any 1 [t.p, s'] w2.heap.size 2 base kw _ _ (hW2.below ((Gr.refl w2).alloc _).below) (Box.new _ _ _) (by simp; exact ⟨b8_w t5, u2⟩) (by omega) (by simp [putB_length]; omega) (by simp)).mono ?_
    rintro x w3 ⟨rfl, hW3, hWr3⟩
    replace hWr := hWr.trans ((Wrote.gr ((Gr.refl w2).alloc _) (by omega)).trans hWr3)
    clear z1 p1 hWr3 hW2
    go_wp2_with fail
    simp only [List.append_assoc] at hW3 ⊢
    simp [bodyPost, results, Tryd.results81, go_sem]
    exact ⟨hW3, hWr⟩
end Go.Proofs.YthmfaafpdogpdaaDoor
