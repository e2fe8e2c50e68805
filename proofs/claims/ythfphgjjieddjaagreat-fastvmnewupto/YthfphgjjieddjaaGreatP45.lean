import Derived.Test.YthfphgjjieddjaaGreatP30
import Derived.Test.YthfphgjjieddjaaGreatP29
import Derived.Test.YthfphgjjieddjaaGreatZDMb
namespace Go.Proofs.YthfphgjjieddjaaGreat
set_option maxRecDepth 100000
set_option maxHeartbeats 40000000
namespace Z
open Go.RowKit
open T (Sep Ob Kp Mf FlIn boxOb)

theorem dbtw (n lo hi : Int) (w : World) :
   Calls Tryz.prog 50 #[.int .i64 n, .int .i64 lo, .int .i64 hi] w fun x w' => Says (lo ≤ n ∧ n ≤ hi) x ∧ w' = w := by
 by_cases h1 : lo ≤ n
 · by_cases h2 : n ≤ hi
   · skip
     go_enter Tryz.func50, Tryz.ntmps50
     go_wp2_with fail
     go_ret
     exact ⟨⟨true, rfl, iff_of_true rfl ⟨by omega, by omega⟩⟩, rfl⟩
   · skip
     go_enter Tryz.func50, Tryz.ntmps50
     go_wp2_with fail
     go_ret
     exact ⟨⟨false, rfl, iff_of_false (by decide) (fun q => by omega)⟩, rfl⟩
 · skip
   go_enter Tryz.func50, Tryz.ntmps50
   go_wp2_with fail
   go_ret
   exact ⟨⟨false, rfl, iff_of_false (by decide) (fun q => by omega)⟩, rfl⟩
theorem bool_f {v : Bool} {p : Prop} (h : v = true ↔ p) (hp : ¬ p) : v = false := by
 cases v
 · rfl
 · exact absurd (h.1 rfl) hp
theorem dnamed (op : Int) (w : World) (h : 0 ≤ op ∧ op < 256) :
   Calls Tryz.prog 67 #[.int .u8 op] w fun x w' => Says (Named op) x ∧ w' = w := by
 have hw : IntKind.i64.wrap op = op := by simp [IntKind.wrap, IntKind.bits, IntKind.signed]; omega
 have hw2 : wrap64 op = op := by unfold wrap64; omega
 go_enter Tryz.func67, Tryz.ntmps67
 go_wp2_with fail
 refine (dbtw _ _ _ _).mono ?_
 rintro r w0 ⟨⟨v0, rfl, hv0⟩, e1⟩
 subst e1
 go_wp2_with fail
 refine (dbtw _ _ _ _).mono ?_
 rintro r w1 ⟨⟨v1, rfl, hv1⟩, e1⟩
 subst e1
 go_wp2_with fail
 refine (dbtw _ _ _ _).mono ?_
 rintro r w2 ⟨⟨v2, rfl, hv2⟩, e1⟩
 subst e1
 go_wp2_with fail
 refine (dbtw _ _ _ _).mono ?_
 rintro r w3 ⟨⟨v3, rfl, hv3⟩, e1⟩
 subst e1
 go_wp2_with fail
 refine (dbtw _ _ _ _).mono ?_
 rintro r w4 ⟨⟨v4, rfl, hv4⟩, e1⟩
 subst e1
 obtain ⟨b, hb⟩ : ∃ b : Bool, b = (v0 || v1 || v2 || v3 || v4) := ⟨_, rfl⟩
 have hN : Hz (b = true ↔ Named op) := Hz.mk (by rw [hb]; simp only [Bool.or_eq_true, hv0, hv1, hv2, hv3, hv4]; unfold Named; omega)
 clear hv0 hv1 hv2 hv3 hv4 hw hw2 h
 cases v0
 · skip
   cases v1
   · skip
     cases v2
     · skip
       cases v3
       · skip
         cases v4
         · skip
           go_wp2_with fail
           go_ret
           exact ⟨⟨_, rfl, by first | exact hN.out | (have := hN.out; rw [hb] at this; simpa using this)⟩, rfl⟩
         · skip
           go_wp2_with fail
           go_ret
           exact ⟨⟨_, rfl, by first | exact hN.out | (have := hN.out; rw [hb] at this; simpa using this)⟩, rfl⟩
       · skip
         go_wp2_with fail
         go_ret
         exact ⟨⟨_, rfl, by first | exact hN.out | (have := hN.out; rw [hb] at this; simpa using this)⟩, rfl⟩
     · skip
       go_wp2_with fail
       go_ret
       exact ⟨⟨_, rfl, by first | exact hN.out | (have := hN.out; rw [hb] at this; simpa using this)⟩, rfl⟩
   · skip
     go_wp2_with fail
     go_ret
     exact ⟨⟨_, rfl, by first | exact hN.out | (have := hN.out; rw [hb] at this; simpa using this)⟩, rfl⟩
 · skip
   go_wp2_with fail
   go_ret
   exact ⟨⟨_, rfl, by first | exact hN.out | (have := hN.out; rw [hb] at this; simpa using this)⟩, rfl⟩
theorem dinst_any (i : Ri) (n k : Nat) (w : World) (hi : i.Is) (hl : n ≤ 1000 ∧ k ≤ 1000) :
   Calls Tryz.prog 51 #[.agg #[.int .u8 i.op, .int .i64 i.a, .int .i64 i.b, .int .i64 i.c, .int .u64 i.i], .int .i64 n, .int .i64 k] w fun x w' => Says (i.Ok n k) x ∧ Gr w w' := by
 obtain ⟨op, ia, ib, ic, im⟩ := i
 dsimp only at *
 have hop := Hz.mk hi.op
 have hn : IntKind.u64.wrap (n : Int) = (n : Int) := by simp [IntKind.wrap, IntKind.bits, IntKind.signed]; omega
 have hk : IntKind.u64.wrap (k : Int) = (k : Int) := by simp [IntKind.wrap, IntKind.bits, IntKind.signed]; omega
 have hw : IntKind.i64.wrap op = op := by have := hop.out; dsimp only at this; simp [IntKind.wrap, IntKind.bits, IntKind.signed]; omega
 have hw2 : wrap64 op = op := by have := hop.out; dsimp only at this; unfold wrap64; omega
 replace hl := Hz.mk hl
 clear hi
 by_cases h70 : 70 ≤ op
 · skip
   have h31 : (op == 31) = false := beq_false_of_ne (by omega)
   go_enter Tryz.func51, Tryz.ntmps51
   go_wp2_with fail
   refine (dnamed _ _ hop.out).mono ?_
   rintro r w1 ⟨⟨v0, rfl, hv0⟩, e1⟩
   subst e1
   replace hv0 := Hz.mk hv0
   go_wp2_with fail
   refine (dbtw _ _ _ _).mono ?_
   rintro r w2 ⟨⟨v1, rfl, hv1⟩, e1⟩
   subst e1
   replace hv1 := Hz.mk hv1
   go_wp2_with fail
   refine (dbtw _ _ _ _).mono ?_
   rintro r w3 ⟨⟨v2, rfl, hv2⟩, e1⟩
   subst e1
   replace hv2 := Hz.mk hv2
   go_wp2_with fail
   refine (dbtw _ _ _ _).mono ?_
   rintro r w4 ⟨⟨v3, rfl, hv3⟩, e1⟩
   subst e1
   replace hv3 := Hz.mk hv3
   go_wp2_with fail
   refine (dbtw _ _ _ _).mono ?_
   rintro r w5 ⟨⟨v5, rfl, hv5⟩, e1⟩
   subst e1
   obtain rfl : v5 = false := bool_f hv5 (by omega)
   clear hv5
   cases v0
   · skip
     go_wp2_with fail
     go_ret
     exact ⟨⟨false, rfl, iff_of_false (by decide) (fun q => absurd (hv0.out.2 q.op) (by decide))⟩, (by first | exact Gr.refl _ | exact (Gr.refl _).alloc _)⟩
   · skip
     cases v1
     · skip
       go_wp2_with fail
       go_ret
       exact ⟨⟨false, rfl, iff_of_false (by decide) (fun q => absurd (hv1.out.2 q.fl.1) (by decide))⟩, (by first | exact Gr.refl _ | exact (Gr.refl _).alloc _)⟩
     · skip
       cases v2
       · skip
         go_wp2_with fail
         go_ret
         exact ⟨⟨false, rfl, iff_of_false (by decide) (fun q => absurd (hv2.out.2 q.fl.2.1) (by decide))⟩, (by first | exact Gr.refl _ | exact (Gr.refl _).alloc _)⟩
       · skip
         cases v3
         · skip
           go_wp2_with fail
           go_ret
           exact ⟨⟨false, rfl, iff_of_false (by decide) (fun q => absurd (hv3.out.2 ⟨q.fl.2.2.1, by have z := q.fl.2.2.2; dsimp only at z; rw [if_pos (by omega)] at z; exact z⟩) (by decide))⟩, (by first | exact Gr.refl _ | exact (Gr.refl _).alloc _)⟩
         · skip
           go_wp2_with fail
           go_ret
           exact ⟨⟨true, rfl, iff_of_true rfl ⟨hv0.out.1 (by trivial), ⟨hv1.out.1 (by trivial), hv2.out.1 (by trivial), (hv3.out.1 (by trivial)).1, by dsimp only; rw [if_pos (by omega)]; exact (hv3.out.1 (by trivial)).2⟩, by unfold Ri.Th; dsimp only; omega⟩⟩, (by first | exact Gr.refl _ | exact (Gr.refl _).alloc _)⟩
 · by_cases h31 : op = 31
   · subst h31
     by_cases y : (k : Int) ≤ im
     · skip
       go_enter Tryz.func51, Tryz.ntmps51
       go_wp2_with fail
       refine (dnamed _ _ hop.out).mono ?_
       rintro r w1 ⟨⟨v0, rfl, hv0⟩, e1⟩
       subst e1
       replace hv0 := Hz.mk hv0
       go_wp2_with fail
       refine (dbtw _ _ _ _).mono ?_
       rintro r w2 ⟨⟨v1, rfl, hv1⟩, e1⟩
       subst e1
       replace hv1 := Hz.mk hv1
       go_wp2_with fail
       refine (dbtw _ _ _ _).mono ?_
       rintro r w3 ⟨⟨v2, rfl, hv2⟩, e1⟩
       subst e1
       replace hv2 := Hz.mk hv2
       go_wp2_with fail
       refine (dbtw _ _ _ _).mono ?_
       rintro r w4 ⟨⟨v3, rfl, hv3⟩, e1⟩
       subst e1
       replace hv3 := Hz.mk hv3
       go_wp2_with fail
       refine (dbtw _ _ _ _).mono ?_
       rintro r w5 ⟨⟨v5, rfl, hv5⟩, e1⟩
       subst e1
       obtain rfl : v5 = false := bool_f hv5 (by omega)
       clear hv5
       go_wp2_with fail
       go_ret
       exact ⟨⟨false, rfl, iff_of_false (by decide) (fun q => absurd (q.th.2 rfl) (by dsimp only; omega))⟩, (by first | exact Gr.refl _ | exact (Gr.refl _).alloc _)⟩
     · skip
       go_enter Tryz.func51, Tryz.ntmps51
       go_wp2_with fail
       refine (dnamed _ _ hop.out).mono ?_
       rintro r w1 ⟨⟨v0, rfl, hv0⟩, e1⟩
       subst e1
       replace hv0 := Hz.mk hv0
       go_wp2_with fail
       refine (dbtw _ _ _ _).mono ?_
       rintro r w2 ⟨⟨v1, rfl, hv1⟩, e1⟩
       subst e1
       replace hv1 := Hz.mk hv1
       go_wp2_with fail
       refine (dbtw _ _ _ _).mono ?_
       rintro r w3 ⟨⟨v2, rfl, hv2⟩, e1⟩
       subst e1
       replace hv2 := Hz.mk hv2
       go_wp2_with fail
       refine (dbtw _ _ _ _).mono ?_
       rintro r w4 ⟨⟨v3, rfl, hv3⟩, e1⟩
       subst e1
       replace hv3 := Hz.mk hv3
       go_wp2_with fail
       refine (dbtw _ _ _ _).mono ?_
       rintro r w5 ⟨⟨v5, rfl, hv5⟩, e1⟩
       subst e1
       obtain rfl : v5 = false := bool_f hv5 (by omega)
       clear hv5
       cases v0
       · skip
         go_wp2_with fail
         go_ret
         exact ⟨⟨false, rfl, iff_of_false (by decide) (fun q => absurd (hv0.out.2 q.op) (by decide))⟩, (by first | exact Gr.refl _ | exact (Gr.refl _).alloc _)⟩
       · skip
         cases v1
         · skip
           go_wp2_with fail
           go_ret
           exact ⟨⟨false, rfl, iff_of_false (by decide) (fun q => absurd (hv1.out.2 q.fl.1) (by decide))⟩, (by first | exact Gr.refl _ | exact (Gr.refl _).alloc _)⟩
         · skip
           cases v2
           · skip
             go_wp2_with fail
             go_ret
             exact ⟨⟨false, rfl, iff_of_false (by decide) (fun q => absurd (hv2.out.2 q.fl.2.1) (by decide))⟩, (by first | exact Gr.refl _ | exact (Gr.refl _).alloc _)⟩
           · skip
             cases v3
             · skip
               go_wp2_with fail
               go_ret
               exact ⟨⟨false, rfl, iff_of_false (by decide) (fun q => absurd (hv3.out.2 ⟨q.fl.2.2.1, by have z := q.fl.2.2.2; dsimp only at z; rw [if_neg (by omega)] at z; exact z⟩) (by decide))⟩, (by first | exact Gr.refl _ | exact (Gr.refl _).alloc _)⟩
             · skip
               go_wp2_with fail
               go_ret
               exact ⟨⟨true, rfl, iff_of_true rfl ⟨hv0.out.1 (by trivial), ⟨hv1.out.1 (by trivial), hv2.out.1 (by trivial), (hv3.out.1 (by trivial)).1, by dsimp only; rw [if_neg (by omega)]; exact (hv3.out.1 (by trivial)).2⟩, by unfold Ri.Th; dsimp only; omega⟩⟩, (by first | exact Gr.refl _ | exact (Gr.refl _).alloc _)⟩
   · have h31b : (op == 31) = false := beq_false_of_ne h31
     by_cases hj : 20 ≤ op ∧ op ≤ 24
     · by_cases y : (n : Int) ≤ im
       · skip
         go_enter Tryz.func51, Tryz.ntmps51
         go_wp2_with fail
         refine (dnamed _ _ hop.out).mono ?_
         rintro r w1 ⟨⟨v0, rfl, hv0⟩, e1⟩
         subst e1
         replace hv0 := Hz.mk hv0
         go_wp2_with fail
         refine (dbtw _ _ _ _).mono ?_
         rintro r w2 ⟨⟨v1, rfl, hv1⟩, e1⟩
         subst e1
         replace hv1 := Hz.mk hv1
         go_wp2_with fail
         refine (dbtw _ _ _ _).mono ?_
         rintro r w3 ⟨⟨v2, rfl, hv2⟩, e1⟩
         subst e1
         replace hv2 := Hz.mk hv2
         go_wp2_with fail
         refine (dbtw _ _ _ _).mono ?_
         rintro r w4 ⟨⟨v3, rfl, hv3⟩, e1⟩
         subst e1
         replace hv3 := Hz.mk hv3
         go_wp2_with fail
         refine (dbtw _ _ _ _).mono ?_
         rintro r w5 ⟨⟨v5, rfl, hv5⟩, e1⟩
         subst e1
         obtain rfl : v5 = true := hv5.2 (by omega)
         clear hv5
         go_wp2_with fail
         go_ret
         exact ⟨⟨false, rfl, iff_of_false (by decide) (fun q => absurd (q.th.1 hj) (by dsimp only; omega))⟩, (by first | exact Gr.refl _ | exact (Gr.refl _).alloc _)⟩
       · skip
         go_enter Tryz.func51, Tryz.ntmps51
         go_wp2_with fail
         refine (dnamed _ _ hop.out).mono ?_
         rintro r w1 ⟨⟨v0, rfl, hv0⟩, e1⟩
         subst e1
         replace hv0 := Hz.mk hv0
         go_wp2_with fail
         refine (dbtw _ _ _ _).mono ?_
         rintro r w2 ⟨⟨v1, rfl, hv1⟩, e1⟩
         subst e1
         replace hv1 := Hz.mk hv1
         go_wp2_with fail
         refine (dbtw _ _ _ _).mono ?_
         rintro r w3 ⟨⟨v2, rfl, hv2⟩, e1⟩
         subst e1
         replace hv2 := Hz.mk hv2
         go_wp2_with fail
         refine (dbtw _ _ _ _).mono ?_
         rintro r w4 ⟨⟨v3, rfl, hv3⟩, e1⟩
         subst e1
         replace hv3 := Hz.mk hv3
         go_wp2_with fail
         refine (dbtw _ _ _ _).mono ?_
         rintro r w5 ⟨⟨v5, rfl, hv5⟩, e1⟩
         subst e1
         obtain rfl : v5 = true := hv5.2 (by omega)
         clear hv5
         cases v0
         · skip
           go_wp2_with fail
           go_ret
           exact ⟨⟨false, rfl, iff_of_false (by decide) (fun q => absurd (hv0.out.2 q.op) (by decide))⟩, (by first | exact Gr.refl _ | exact (Gr.refl _).alloc _)⟩
         · skip
           cases v1
           · skip
             go_wp2_with fail
             go_ret
             exact ⟨⟨false, rfl, iff_of_false (by decide) (fun q => absurd (hv1.out.2 q.fl.1) (by decide))⟩, (by first | exact Gr.refl _ | exact (Gr.refl _).alloc _)⟩
           · skip
             cases v2
             · skip
               go_wp2_with fail
               go_ret
               exact ⟨⟨false, rfl, iff_of_false (by decide) (fun q => absurd (hv2.out.2 q.fl.2.1) (by decide))⟩, (by first | exact Gr.refl _ | exact (Gr.refl _).alloc _)⟩
             · skip
               cases v3
               · skip
                 go_wp2_with fail
                 go_ret
                 exact ⟨⟨false, rfl, iff_of_false (by decide) (fun q => absurd (hv3.out.2 ⟨q.fl.2.2.1, by have z := q.fl.2.2.2; dsimp only at z; rw [if_neg (by omega)] at z; exact z⟩) (by decide))⟩, (by first | exact Gr.refl _ | exact (Gr.refl _).alloc _)⟩
               · skip
                 go_wp2_with fail
                 go_ret
                 exact ⟨⟨true, rfl, iff_of_true rfl ⟨hv0.out.1 (by trivial), ⟨hv1.out.1 (by trivial), hv2.out.1 (by trivial), (hv3.out.1 (by trivial)).1, by dsimp only; rw [if_neg (by omega)]; exact (hv3.out.1 (by trivial)).2⟩, by unfold Ri.Th; dsimp only; omega⟩⟩, (by first | exact Gr.refl _ | exact (Gr.refl _).alloc _)⟩
     · skip
       go_enter Tryz.func51, Tryz.ntmps51
       go_wp2_with fail
       refine (dnamed _ _ hop.out).mono ?_
       rintro r w1 ⟨⟨v0, rfl, hv0⟩, e1⟩
       subst e1
       replace hv0 := Hz.mk hv0
       go_wp2_with fail
       refine (dbtw _ _ _ _).mono ?_
       rintro r w2 ⟨⟨v1, rfl, hv1⟩, e1⟩
       subst e1
       replace hv1 := Hz.mk hv1
       go_wp2_with fail
       refine (dbtw _ _ _ _).mono ?_
       rintro r w3 ⟨⟨v2, rfl, hv2⟩, e1⟩
       subst e1
       replace hv2 := Hz.mk hv2
       go_wp2_with fail
       refine (dbtw _ _ _ _).mono ?_
       rintro r w4 ⟨⟨v3, rfl, hv3⟩, e1⟩
       subst e1
       replace hv3 := Hz.mk hv3
       go_wp2_with fail
       refine (dbtw _ _ _ _).mono ?_
       rintro r w5 ⟨⟨v5, rfl, hv5⟩, e1⟩
       subst e1
       obtain rfl : v5 = false := bool_f hv5 (by omega)
       clear hv5
       cases v0
       · skip
         go_wp2_with fail
         go_ret
         exact ⟨⟨false, rfl, iff_of_false (by decide) (fun q => absurd (hv0.out.2 q.op) (by decide))⟩, (by first | exact Gr.refl _ | exact (Gr.refl _).alloc _)⟩
       · skip
         cases v1
         · skip
           go_wp2_with fail
           go_ret
           exact ⟨⟨false, rfl, iff_of_false (by decide) (fun q => absurd (hv1.out.2 q.fl.1) (by decide))⟩, (by first | exact Gr.refl _ | exact (Gr.refl _).alloc _)⟩
         · skip
           cases v2
           · skip
             go_wp2_with fail
             go_ret
             exact ⟨⟨false, rfl, iff_of_false (by decide) (fun q => absurd (hv2.out.2 q.fl.2.1) (by decide))⟩, (by first | exact Gr.refl _ | exact (Gr.refl _).alloc _)⟩
           · skip
             cases v3
             · skip
               go_wp2_with fail
               go_ret
               exact ⟨⟨false, rfl, iff_of_false (by decide) (fun q => absurd (hv3.out.2 ⟨q.fl.2.2.1, by have z := q.fl.2.2.2; dsimp only at z; rw [if_neg (by omega)] at z; exact z⟩) (by decide))⟩, (by first | exact Gr.refl _ | exact (Gr.refl _).alloc _)⟩
             · skip
               go_wp2_with fail
               go_ret
               exact ⟨⟨true, rfl, iff_of_true rfl ⟨hv0.out.1 (by trivial), ⟨hv1.out.1 (by trivial), hv2.out.1 (by trivial), (hv3.out.1 (by trivial)).1, by dsimp only; rw [if_neg (by omega)]; exact (hv3.out.1 (by trivial)).2⟩, by unfold Ri.Th; dsimp only; omega⟩⟩, (by first | exact Gr.refl _ | exact (Gr.refl _).alloc _)⟩
end Z
end Go.Proofs.YthfphgjjieddjaaGreat


namespace Go.Proofs.YthfphgjjieddjaaGreat
set_option maxRecDepth 100000
set_option maxHeartbeats 40000000
namespace Z
open Go.RowKit
open T (Sep Ob Kp Mf FlIn boxOb)

theorem dmay_any (R : Rp) (ca ga : Option Addr) (cc gc : Nat) (mem : ByteArray) (w : World) (hP : RpIn w ca ga R) (is : R.Is) (hrl : ∀ r ∈ R.code, r.length ≤ 2000000) :
   Calls Tryz.prog 38 #[.agg #[.slice ca R.code.length cc, .slice ga R.gates.length gc, .string mem, .int .i64 R.dep]] w fun x w' => Says (R.Ok mem.size) x ∧ Gr w w' := by
 replace is := Hz.mk is
 replace hrl := Hz.mk hrl
 go_enter Tryz.func38, Tryz.ntmps38
 go_upto_region 1 with fail
 refine wp_world (fun W => At W w.heap.size #[.slice ca R.code.length cc, .slice ga R.gates.length gc, .string mem, .int .i64 R.dep] ∧ Gr w W) ⟨At.new w _ _, (Gr.refl _).alloc _⟩ ?_
 rintro W ⟨hA, G⟩
 replace hP := Hz.mk (hP.gr G)
 generalize w.heap.size = kp at *
 have c0 : W.cell? ⟨kp, 0, none⟩ = some (.slice ca R.code.length cc) := hA.2.1 0
 have c1 : W.cell? ⟨kp, 1, none⟩ = some (.slice ga R.gates.length gc) := hA.2.1 1
 have c2 : W.cell? ⟨kp, 2, none⟩ = some (.string mem) := hA.2.1 2
 have c3 : W.cell? ⟨kp, 3, none⟩ = some (.int .i64 R.dep) := hA.2.1 3
 replace hA := Hz.mk hA
 go_wp2_with fail
 refine (dbtw _ _ _ _).mono ?_
 rintro r w1 ⟨⟨v0, rfl, hv0⟩, e1⟩
 subst e1
 replace hv0 := Hz.mk hv0
 go_wp2_with fail
 refine (dbtw _ _ _ _).mono ?_
 rintro r w2 ⟨⟨v1, rfl, hv1⟩, e1⟩
 subst e1
 replace hv1 := Hz.mk hv1
 cases v0
 · skip
   have z : Hz (Says (R.Ok mem.size) (.returned (.bool false))) := Hz.mk ⟨false, rfl, iff_of_false (by decide) (fun q => absurd (hv0.out.2 (by have := q.n1; omega)) (by decide))⟩
   go_wp2_with fail
   go_ret
   exact ⟨z.out, G⟩
 have n1 := hv0.out.1 (by trivial)
 by_cases nc : R.code.length = R.gates.length
 rotate_left
 · have nci : ((R.code.length : Int) != (R.gates.length : Int)) = true := by simp; omega
   have z : Hz (Says (R.Ok mem.size) (.returned (.bool false))) := Hz.mk ⟨false, rfl, iff_of_false (by decide) (fun q => absurd q.nc nc)⟩
   clear nc
   go_wp2_with fail
   go_ret
   exact ⟨z.out, G⟩
 have nci : ((R.code.length : Int) != (R.gates.length : Int)) = false := by simp [nc]
 replace nc := Hz.mk nc
 cases v1
 · skip
   have z : Hz (Says (R.Ok mem.size) (.returned (.bool false))) := Hz.mk ⟨false, rfl, iff_of_false (by decide) (fun q => absurd (hv1.out.2 q.dp) (by decide))⟩
   go_wp2_with fail
   go_ret
   exact ⟨z.out, G⟩
 have dp := Hz.mk (hv1.out.1 (by trivial))
 by_cases hmi : (65536 : Int) < (mem.size : Int)
 · skip
   have z : Hz (Says (R.Ok mem.size) (.returned (.bool false))) := Hz.mk ⟨false, rfl, iff_of_false (by decide) (fun q => absurd q.mm (by omega))⟩
   go_wp2_with fail
   go_ret
   exact ⟨z.out, G⟩
 have hlen : R.gates.length ≤ 1000000 := by omega
 have hl16 : R.gates.length ≤ 1000 := by omega
 replace n1 := Hz.mk n1
 clear hv0 hv1
 go_upto_region 7 with fail
 clear c2 c3 nci
 replace c0 := Hz.mk c0
 replace c1 := Hz.mk c1
 go_loopw [6] (fun x wr => ∃ k : Nat, x = .int .i64 k ∧ k ≤ R.gates.length ∧ Hz (∀ m, m < k → R.Gt m) ∧ Hz (Gr w2 wr)) (fun x _ => R.gates.length - (intOf x).toNat)
 case atStart => exact ⟨0, rfl, Nat.zero_le _, Hz.mk (fun m q => absurd q (Nat.not_lt_zero _)), Hz.mk (Gr.refl _)⟩
 case round =>
   obtain ⟨k, rfl, hk, hbe, G2⟩ := hrel
   by_cases hlt : k < R.gates.length
   · have hk1 : (k : Int) < (R.gates.length : Int) := Int.ofNat_lt.2 hlt
     have hkc : k < R.code.length := by rw [nc.out]; exact hlt
     have hk2 : (k : Int) < (R.code.length : Int) := Int.ofNat_lt.2 hkc
     have his := Hz.mk (is.out.code _ (List.getElem_mem hkc))
     obtain ⟨gb, goff, e8, hgb, hgr⟩ := (hP.out.gr G2.out).gate k hlt
     obtain ⟨b, off, ra, rc, e9, hb9, hcc, hE⟩ := (hP.out.gr G2.out).code k hkc
     have hAw := hA.out.gr G2.out
     have d0 : wr.cell? ⟨kp, 0, none⟩ = some (.slice (some ⟨b, off, none⟩) R.code.length cc) := by rw [← e9]; exact hAw.2.1 0
     have d1 : wr.cell? ⟨kp, 1, none⟩ = some (.slice (some ⟨gb, goff, none⟩) R.gates.length gc) := by rw [← e8]; exact hAw.2.1 1
     have f0 : wr.cell? ⟨gb, goff + k * 19, none⟩ = some (.int .i64 R.gates[k].e) := hgr 0 _ rfl
     have f1 : wr.cell? ⟨gb, goff + k * 19 + 1, none⟩ = some (.int .i64 R.gates[k].a) := hgr 1 _ rfl
     have f2 : wr.cell? ⟨gb, goff + k * 19 + 2, none⟩ = some (.int .i64 R.gates[k].s) := hgr 2 _ rfl
     replace hE := Hz.mk hE
     replace e8 := Hz.mk e8
     replace e9 := Hz.mk e9
     clear hgr hAw
     have hrow2 := Hz.mk (hrl.out _ (List.getElem_mem hkc))
     obtain ⟨RW, hRW⟩ : ∃ RW, R.code[k] = RW := ⟨_, rfl⟩
     obtain ⟨GT, hGT⟩ : ∃ GT, R.gates[k] = GT := ⟨_, rfl⟩
     rw [hRW] at hcc hE his hrow2
     rw [hGT] at f0 f1 f2
     have hgt : Hz (R.Gt k ↔ RowOk RW R.gates.length ∧ GT.Ok RW.length) := Hz.mk ⟨fun ⟨_, _, p, q⟩ => by rw [hRW] at p q; rw [hGT] at q; exact ⟨p, q⟩, fun ⟨p, q⟩ => ⟨hlt, hkc, by rw [hRW]; exact p, by rw [hRW, hGT]; exact q⟩⟩
     replace hRW := Hz.mk hRW
     replace hGT := Hz.mk hGT
     have hwr : wrap64 ((RW.length : Int) - 1) = (RW.length : Int) - 1 := by have := hrow2.out; unfold wrap64; omega
     go_wp2_with fail
     refine (dbtw _ _ _ _).mono ?_
     rintro r u1 ⟨⟨v0, rfl, hv0⟩, e1⟩
     subst e1
     replace hv0 := Hz.mk hv0
     go_wp2_with fail
     refine (dbtw _ _ _ _).mono ?_
     rintro r u2 ⟨⟨v1, rfl, hv1⟩, e1⟩
     subst e1
     replace hv1 := Hz.mk hv1
     go_wp2_with fail
     refine (dbtw _ _ _ _).mono ?_
     rintro r u3 ⟨⟨v2, rfl, hv2⟩, e1⟩
     subst e1
     replace hv2 := Hz.mk hv2
     go_wp2_with fail
     refine (dbtw _ _ _ _).mono ?_
     rintro r u4 ⟨⟨v3, rfl, hv3⟩, e1⟩
     subst e1
     replace hv3 := Hz.mk hv3
     cases v0
     · skip
       have z : Hz (Says (R.Ok mem.size) (.returned (.bool false))) := Hz.mk ⟨false, rfl, iff_of_false (by decide) (fun q => absurd ((fun (p : RowOk RW R.gates.length ∧ GT.Ok RW.length) => hv0.out.2 (by have := p.1.1; omega)) (hgt.out.1 (q.gt k hlt))) (by decide))⟩
       go_wp2_with fail
       go_ret
       exact ⟨z.out, G.trans G2.out⟩
     · skip
       cases v1
       · skip
         have z : Hz (Says (R.Ok mem.size) (.returned (.bool false))) := Hz.mk ⟨false, rfl, iff_of_false (by decide) (fun q => absurd ((fun (p : RowOk RW R.gates.length ∧ GT.Ok RW.length) => hv1.out.2 (by have := p.2.1; omega)) (hgt.out.1 (q.gt k hlt))) (by decide))⟩
         go_wp2_with fail
         go_ret
         exact ⟨z.out, G.trans G2.out⟩
       · skip
         cases v2
         · skip
           have z : Hz (Says (R.Ok mem.size) (.returned (.bool false))) := Hz.mk ⟨false, rfl, iff_of_false (by decide) (fun q => absurd ((fun (p : RowOk RW R.gates.length ∧ GT.Ok RW.length) => hv2.out.2 p.2.2.1) (hgt.out.1 (q.gt k hlt))) (by decide))⟩
           go_wp2_with fail
           go_ret
           exact ⟨z.out, G.trans G2.out⟩
         · skip
           cases v3
           · skip
             have z : Hz (Says (R.Ok mem.size) (.returned (.bool false))) := Hz.mk ⟨false, rfl, iff_of_false (by decide) (fun q => absurd ((fun (p : RowOk RW R.gates.length ∧ GT.Ok RW.length) => hv3.out.2 p.2.2.2) (hgt.out.1 (q.gt k hlt))) (by decide))⟩
             go_wp2_with fail
             go_ret
             exact ⟨z.out, G.trans G2.out⟩
           · skip
             have hr := Hz.mk (hv0.out.1 (by trivial))
             have hgo : Hz (GT.Ok RW.length) := Hz.mk ⟨by have := hv1.out.1 (by trivial); omega, hv2.out.1 (by trivial), hv3.out.1 (by trivial)⟩
             have hrk : RW.length ≤ 1000 := by have := hr.out; omega
             clear hv0 hv1 hv2 hv3 f0 f1 f2 d0 d1 hcc hwr
             go_upto_region 17 with fail
             go_loopw [12] (fun x wq => ∃ j : Nat, x = .int .i64 j ∧ j ≤ RW.length ∧ Hz (∀ m (h : m < RW.length), m < j → RW[m].Ok RW.length R.gates.length) ∧ Hz (Gr u4 wq)) (fun x _ => RW.length - (intOf x).toNat)
             case atStart => exact ⟨0, rfl, Nat.zero_le _, Hz.mk (fun m _ q => absurd q (Nat.not_lt_zero _)), Hz.mk (Gr.refl _)⟩
             case round =>
               obtain ⟨j, rfl, hj, hbj, G3⟩ := hrel
               by_cases hjl : j < RW.length
               · have hj1 : (j : Int) < (RW.length : Int) := Int.ofNat_lt.2 hjl
                 obtain ⟨rb, ro, era, hrb, hrg⟩ := reat5 hE.out G3.out j hjl
                 subst era
                 have hin := Hz.mk (dinst_any RW[j] RW.length R.gates.length wr (his.out _ (List.getElem_mem hjl)) ⟨hrk, hl16⟩)
                 have g0 : Hz (wr.rangeAt rb (ro + j * 5) RW[j].vals) := Hz.mk hrg
                 clear hrg
                 go_upto_region 19 with fail
                 refine wp_region_lit ?_
                 iterate 3 (refine wpList_plain rfl (fun K hK => ?_); go_simp; with_reducible refine hK _ _ ?_; clear hK K; (try simp only [xap]))
                 refine wpList_plain rfl (fun K hK => ?_)
                 refine wp_load_mid _ _ rfl _ (ro + j * 5) rfl RW[j].vals _ g0.out Tryz.underlying42 rfl (by kernel_rfl) (hK _ _ ?_)
                 clear hK K
                 try simp only [xap]
                 iterate 3 (refine wpList_plain rfl (fun K hK => ?_); go_simp; with_reducible refine hK _ _ ?_; clear hK K; (try simp only [xap]))
                 refine wpList_plain rfl (fun K hK => ?_)
                 go_simp
                 (refine hin.out.mono ?_; rintro r V9 ⟨hS9, G9⟩; obtain ⟨v9, rfl, hv9⟩ := hS9)
                 with_reducible refine hK _ _ ?_
                 clear hK K
                 try simp only [xap]
                 refine wpList_plain rfl (fun K hK => ?_)
                 go_simp
                 with_reducible refine hK _ _ ?_
                 clear hK K
                 try simp only [xap]
                 cases v9
                 · have z : Hz (Says (R.Ok mem.size) (.returned (.bool false))) := Hz.mk ⟨false, rfl, iff_of_false (by decide) (fun q => by
                     have p := hgt.out.1 (q.gt k hlt)
                     exact absurd (hv9.2 (p.1.2 j hjl)) (by decide))⟩
                   go_wp2_with fail
                   go_ret
                   exact ⟨z.out, G.trans (G2.out.trans (G3.out.trans G9))⟩
                 · have hok := Hz.mk (hv9.1 (by trivial))
                   go_wp2_with fail
                   refine ⟨⟨j + 1, ?_, hjl, Hz.mk (fun m hm q => ?_), Hz.mk (G3.out.trans G9)⟩, ?_⟩
                   · first | rfl | rw [next_wZ hjl (by omega)] | go_num
                   · by_cases e : m = j
                     · subst e
                       exact hok.out
                     · exact hbj.out m hm (by omega)
                   · first | exact next_mZ hjl | (rw [next_wZ hjl (by omega)]; exact next_mZ hjl)
               · have hj1 : ¬ (j : Int) < (RW.length : Int) := fun q => hjl (Int.ofNat_lt.1 q)
                 obtain rfl : j = RW.length := by omega
                 have hG := Hz.mk (hgt.out.2 ⟨⟨by have := hr.out; omega, fun m hm => hbj.out m hm hm⟩, hgo.out⟩)
                 go_wp2_with fail
                 refine ⟨⟨k + 1, ?_, hlt, Hz.mk (fun m q => ?_), Hz.mk (G2.out.trans G3.out)⟩, ?_⟩
                 · first | rfl | rw [next_wZ hlt hlen] | go_num
                 · by_cases e : m = k
                   · subst e
                     exact hG.out
                   · exact hbe.out m (by omega)
                 · first | exact next_mZ hlt | (rw [next_wZ hlt hlen]; exact next_mZ hlt)
   · have hk1 : ¬ (k : Int) < (R.gates.length : Int) := fun q => hlt (Int.ofNat_lt.1 q)
     obtain rfl : k = R.gates.length := by omega
     have z : Hz (Says (R.Ok mem.size) (.returned (.bool true))) := Hz.mk ⟨true, rfl, iff_of_true rfl ⟨by have := n1.out; omega, nc.out, dp.out, by omega, hbe.out⟩⟩
     go_wp2_with fail
     go_ret
     exact ⟨z.out, G.trans G2.out⟩
end Z
end Go.Proofs.YthfphgjjieddjaaGreat


namespace Go.Proofs.YthfphgjjieddjaaGreat
set_option maxRecDepth 100000
set_option maxHeartbeats 40000000
namespace Z
open Go.RowKit
open T (Sep Ob Kp Mf FlIn boxOb)

theorem dmf60 (B : Nat) (W0 : World) (b : Nat) (c : Dc) (P : Pr) (s : Fm) (og op : Nat) (l : List Ob) (ia ib ic : Nat) (imm : Int) (h : DIo B W0 b c P s og op l) (hb : ib < 16) (A : Nat) (hA : IntKind.u64.wrap (s.r ib + imm) = (A : Int)) (hf : 65536 - 1 < A) :
   Calls Tryz.prog 55 #[.pointer (some ⟨b, 0, none⟩), .agg #[.int .u8 60, .int .i64 ia, .int .i64 ib, .int .i64 ic, .int .u64 imm]] W0 fun x w' => x = .returned (.tuple #[]) ∧ DIo B w' b c P ({ s with e := 7, v := 0, f := 5 }) s.g s.p l ∧ Below B W0 w' := by
 have h2 := Hz.mk (h.new #[.int .u8 60, .int .i64 ia, .int .i64 ib, .int .i64 ic, .int .u64 imm] 42)
 clear h
 go_enter Tryz.func55, Tryz.ntmps55
 go_upto_region 1 with fail
 refine wp_world (fun W => DIo B W b c P s og op (boxOb W0.heap.size #[.int .u8 60, .int .i64 ia, .int .i64 ib, .int .i64 ic, .int .u64 imm] :: l) ∧ Below B W0 W) h2.out ?_
 rintro W ⟨h, hB⟩
 replace h := Hz.mk h
 replace hB := Hz.mk hB
 clear h2
 generalize W0.heap.size = kb at *
 have KS := xk2 60 ia ib ic imm kb
 have k0 : W.cell? ⟨kb, 0, none⟩ = some (.int .u8 60) := (h.out.there (boxOb kb #[.int .u8 60, .int .i64 ia, .int .i64 ib, .int .i64 ic, .int .u64 imm]) (.head _)).2.1 0
 have hbi : (ib : Int) < 16 := by omega
 have hkb : kb < W.heap.size := (h.out.there (boxOb kb #[.int .u8 60, .int .i64 ia, .int .i64 ib, .int .i64 ic, .int .u64 imm]) (.head _)).1
 have hne : ¬ W.heap.size = kb := by omega
 go_upto_region 2 with fail
 refine wp_world (fun X => DIo B X b c P s og op (boxOb kb #[.int .u8 60, .int .i64 ia, .int .i64 ib, .int .i64 ic, .int .u64 imm] :: l) ∧ Below B W0 X) ⟨h.out.gr ((Gr.refl W).alloc _).below, hB.out.trans (((Gr.refl W).alloc _).below.mono h.out.le)⟩ ?_
 clear h hB k0 hkb hne
 rintro V ⟨h, hB⟩
 replace hB := Hz.mk (hB.trans (((Gr.refl V).drew).below.mono h.le))
 replace h := Hz.mk (h.gr ((Gr.refl V).drew).below)
 have k2 : V.drew.cell? ⟨kb, 2, none⟩ = some (.int .i64 ib) := (h.out.there (boxOb kb #[.int .u8 60, .int .i64 ia, .int .i64 ib, .int .i64 ic, .int .u64 imm]) (.head _)).2.1 2
 have k4 : V.drew.cell? ⟨kb, 4, none⟩ = some (.int .u64 imm) := (h.out.there (boxOb kb #[.int .u8 60, .int .i64 ia, .int .i64 ib, .int .i64 ic, .int .u64 imm]) (.head _)).2.1 4
 have kr : V.drew.cell? ⟨b, 6 + ib, none⟩ = some (.int .u64 (s.r ib)) := h.out.hand.2.2 ib _ (regs_at s.r ib hb)
 refine wp_region_held_drew (S := (fun X => (X.cell? ⟨kb, 2, none⟩ = some (.int .i64 ib)) ∧ X.cell? ⟨kb, 4, none⟩ = some (.int .u64 imm) ∧ X.cell? ⟨b, 6 + ib, none⟩ = some (.int .u64 (s.r ib)))) (by kernel_rfl) (⟨k2, k4, kr⟩) (fun hHeld => ?_)
 refine xso 0 ?_ rfl ?_ (xso 1 ?_ rfl ?_ (xso 2 ?_ rfl ?_ (xso 3 ?_ rfl ?_ (xso 4 ?_ rfl ?_ (xso 5 ?_ rfl ?_ (xso 6 ?_ rfl ?_ (xso 7 ?_ rfl ?_ (xso 8 ?_ rfl ?_ ?_))))))))
 iterate 9 (rotate_left; focus ((try simp only [xap]); intro w hSw; (try dsimp only at hSw); go_simp; first | done | with_reducible rfl))
 try simp only [xap]
 refine xtk 9 (v := .int .u64 (A : Int)) rfl (Or.inl ⟨by rfl, ?_⟩) ?_
 · intro w hSw; (try dsimp only at hSw); go_simp; first | done | (rw [hA])
 try simp only [xap]
 refine xso 10 ?_ rfl ?_ ?_
 rotate_left
 · intro w hSw; (try dsimp only at hSw); go_simp; first | done | with_reducible rfl
 try simp only [xap]
 refine xdn ?_ _
 clear hHeld k2 k4 kr
 generalize V.drew = V1 at *
 have hen := Hz.mk (h.out.onBox (s' := { s with e := 7, v := 0, f := 5 }) (og' := s.g) (op' := s.p) ⟨rfl, rfl, rfl, rfl, rfl⟩ (fun q hb => dend_any b _ 7 0 5 V1 hb))
 by_cases hq : 65536 ≤ A
 · have h1 : (65536 : Int) ≤ (A : Int) := by omega
   go_wp2_with fail
   refine hen.out.mono ?_
   rintro r V9 ⟨rfl, h9, hB9⟩
   replace hB := Hz.mk (hB.out.trans hB9)
   replace h9 := Hz.mk h9
   clear hen hB9
   go_wp2_with fail
   first | go_end0 | ((try simp only [Exit.inBlock, Exit.then]); refine bodyPost_ret (results_none rfl _ _ _) rfl ?_)
   exact ⟨rfl, h9.out.drop, hB.out⟩
 · have h1 : ¬ (65536 : Int) ≤ (A : Int) := by omega
   have hw : IntKind.u64.wrap (65536 - (A : Int)) = 65536 - (A : Int) := by rw [IntKind.wrap_u64]; omega
   have h2 : 65536 - (A : Int) < 1 := by omega
   go_wp2_with fail
   refine hen.out.mono ?_
   rintro r V9 ⟨rfl, h9, hB9⟩
   replace hB := Hz.mk (hB.out.trans hB9)
   replace h9 := Hz.mk h9
   clear hen hB9
   go_wp2_with fail
   first | go_end0 | ((try simp only [Exit.inBlock, Exit.then]); refine bodyPost_ret (results_none rfl _ _ _) rfl ?_)
   exact ⟨rfl, h9.out.drop, hB.out⟩
theorem dmf61 (B : Nat) (W0 : World) (b : Nat) (c : Dc) (P : Pr) (s : Fm) (og op : Nat) (l : List Ob) (ia ib ic : Nat) (imm : Int) (h : DIo B W0 b c P s og op l) (hb : ib < 16) (A : Nat) (hA : IntKind.u64.wrap (s.r ib + imm) = (A : Int)) (hf : 65536 - 8 < A) :
   Calls Tryz.prog 55 #[.pointer (some ⟨b, 0, none⟩), .agg #[.int .u8 61, .int .i64 ia, .int .i64 ib, .int .i64 ic, .int .u64 imm]] W0 fun x w' => x = .returned (.tuple #[]) ∧ DIo B w' b c P ({ s with e := 7, v := 0, f := 5 }) s.g s.p l ∧ Below B W0 w' := by
 have h2 := Hz.mk (h.new #[.int .u8 61, .int .i64 ia, .int .i64 ib, .int .i64 ic, .int .u64 imm] 42)
 clear h
 go_enter Tryz.func55, Tryz.ntmps55
 go_upto_region 1 with fail
 refine wp_world (fun W => DIo B W b c P s og op (boxOb W0.heap.size #[.int .u8 61, .int .i64 ia, .int .i64 ib, .int .i64 ic, .int .u64 imm] :: l) ∧ Below B W0 W) h2.out ?_
 rintro W ⟨h, hB⟩
 replace h := Hz.mk h
 replace hB := Hz.mk hB
 clear h2
 generalize W0.heap.size = kb at *
 have KS := xk2 61 ia ib ic imm kb
 have k0 : W.cell? ⟨kb, 0, none⟩ = some (.int .u8 61) := (h.out.there (boxOb kb #[.int .u8 61, .int .i64 ia, .int .i64 ib, .int .i64 ic, .int .u64 imm]) (.head _)).2.1 0
 have hbi : (ib : Int) < 16 := by omega
 have hkb : kb < W.heap.size := (h.out.there (boxOb kb #[.int .u8 61, .int .i64 ia, .int .i64 ib, .int .i64 ic, .int .u64 imm]) (.head _)).1
 have hne : ¬ W.heap.size = kb := by omega
 go_upto_region 2 with fail
 refine wp_world (fun X => DIo B X b c P s og op (boxOb kb #[.int .u8 61, .int .i64 ia, .int .i64 ib, .int .i64 ic, .int .u64 imm] :: l) ∧ Below B W0 X) ⟨h.out.gr ((Gr.refl W).alloc _).below, hB.out.trans (((Gr.refl W).alloc _).below.mono h.out.le)⟩ ?_
 clear h hB k0 hkb hne
 rintro V ⟨h, hB⟩
 replace hB := Hz.mk (hB.trans (((Gr.refl V).drew).below.mono h.le))
 replace h := Hz.mk (h.gr ((Gr.refl V).drew).below)
 have k2 : V.drew.cell? ⟨kb, 2, none⟩ = some (.int .i64 ib) := (h.out.there (boxOb kb #[.int .u8 61, .int .i64 ia, .int .i64 ib, .int .i64 ic, .int .u64 imm]) (.head _)).2.1 2
 have k4 : V.drew.cell? ⟨kb, 4, none⟩ = some (.int .u64 imm) := (h.out.there (boxOb kb #[.int .u8 61, .int .i64 ia, .int .i64 ib, .int .i64 ic, .int .u64 imm]) (.head _)).2.1 4
 have kr : V.drew.cell? ⟨b, 6 + ib, none⟩ = some (.int .u64 (s.r ib)) := h.out.hand.2.2 ib _ (regs_at s.r ib hb)
 refine wp_region_held_drew (S := (fun X => (X.cell? ⟨kb, 2, none⟩ = some (.int .i64 ib)) ∧ X.cell? ⟨kb, 4, none⟩ = some (.int .u64 imm) ∧ X.cell? ⟨b, 6 + ib, none⟩ = some (.int .u64 (s.r ib)))) (by kernel_rfl) (⟨k2, k4, kr⟩) (fun hHeld => ?_)
 refine xso 0 ?_ rfl ?_ (xso 1 ?_ rfl ?_ (xso 2 ?_ rfl ?_ (xso 3 ?_ rfl ?_ (xso 4 ?_ rfl ?_ (xso 5 ?_ rfl ?_ (xso 6 ?_ rfl ?_ (xso 7 ?_ rfl ?_ (xso 8 ?_ rfl ?_ ?_))))))))
 iterate 9 (rotate_left; focus ((try simp only [xap]); intro w hSw; (try dsimp only at hSw); go_simp; first | done | with_reducible rfl))
 try simp only [xap]
 refine xtk 9 (v := .int .u64 (A : Int)) rfl (Or.inl ⟨by rfl, ?_⟩) ?_
 · intro w hSw; (try dsimp only at hSw); go_simp; first | done | (rw [hA])
 try simp only [xap]
 refine xso 10 ?_ rfl ?_ ?_
 rotate_left
 · intro w hSw; (try dsimp only at hSw); go_simp; first | done | with_reducible rfl
 try simp only [xap]
 refine xdn ?_ _
 clear hHeld k2 k4 kr
 generalize V.drew = V1 at *
 have hen := Hz.mk (h.out.onBox (s' := { s with e := 7, v := 0, f := 5 }) (og' := s.g) (op' := s.p) ⟨rfl, rfl, rfl, rfl, rfl⟩ (fun q hb => dend_any b _ 7 0 5 V1 hb))
 by_cases hq : 65536 ≤ A
 · have h1 : (65536 : Int) ≤ (A : Int) := by omega
   go_wp2_with fail
   refine hen.out.mono ?_
   rintro r V9 ⟨rfl, h9, hB9⟩
   replace hB := Hz.mk (hB.out.trans hB9)
   replace h9 := Hz.mk h9
   clear hen hB9
   go_wp2_with fail
   first | go_end0 | ((try simp only [Exit.inBlock, Exit.then]); refine bodyPost_ret (results_none rfl _ _ _) rfl ?_)
   exact ⟨rfl, h9.out.drop, hB.out⟩
 · have h1 : ¬ (65536 : Int) ≤ (A : Int) := by omega
   have hw : IntKind.u64.wrap (65536 - (A : Int)) = 65536 - (A : Int) := by rw [IntKind.wrap_u64]; omega
   have h2 : 65536 - (A : Int) < 8 := by omega
   go_wp2_with fail
   refine hen.out.mono ?_
   rintro r V9 ⟨rfl, h9, hB9⟩
   replace hB := Hz.mk (hB.out.trans hB9)
   replace h9 := Hz.mk h9
   clear hen hB9
   go_wp2_with fail
   first | go_end0 | ((try simp only [Exit.inBlock, Exit.then]); refine bodyPost_ret (results_none rfl _ _ _) rfl ?_)
   exact ⟨rfl, h9.out.drop, hB.out⟩
theorem dmf62 (B : Nat) (W0 : World) (b : Nat) (c : Dc) (P : Pr) (s : Fm) (og op : Nat) (l : List Ob) (ia ib ic : Nat) (imm : Int) (h : DIo B W0 b c P s og op l) (hb : ib < 16) (A : Nat) (hA : IntKind.u64.wrap (s.r ib + imm) = (A : Int)) (hf : 65536 - 1 < A) :
   Calls Tryz.prog 55 #[.pointer (some ⟨b, 0, none⟩), .agg #[.int .u8 62, .int .i64 ia, .int .i64 ib, .int .i64 ic, .int .u64 imm]] W0 fun x w' => x = .returned (.tuple #[]) ∧ DIo B w' b c P ({ s with e := 7, v := 0, f := 5 }) s.g s.p l ∧ Below B W0 w' := by
 have h2 := Hz.mk (h.new #[.int .u8 62, .int .i64 ia, .int .i64 ib, .int .i64 ic, .int .u64 imm] 42)
 clear h
 go_enter Tryz.func55, Tryz.ntmps55
 go_upto_region 1 with fail
 refine wp_world (fun W => DIo B W b c P s og op (boxOb W0.heap.size #[.int .u8 62, .int .i64 ia, .int .i64 ib, .int .i64 ic, .int .u64 imm] :: l) ∧ Below B W0 W) h2.out ?_
 rintro W ⟨h, hB⟩
 replace h := Hz.mk h
 replace hB := Hz.mk hB
 clear h2
 generalize W0.heap.size = kb at *
 have KS := xk2 62 ia ib ic imm kb
 have k0 : W.cell? ⟨kb, 0, none⟩ = some (.int .u8 62) := (h.out.there (boxOb kb #[.int .u8 62, .int .i64 ia, .int .i64 ib, .int .i64 ic, .int .u64 imm]) (.head _)).2.1 0
 have hbi : (ib : Int) < 16 := by omega
 have hkb : kb < W.heap.size := (h.out.there (boxOb kb #[.int .u8 62, .int .i64 ia, .int .i64 ib, .int .i64 ic, .int .u64 imm]) (.head _)).1
 have hne : ¬ W.heap.size = kb := by omega
 go_upto_region 2 with fail
 refine wp_world (fun X => DIo B X b c P s og op (boxOb kb #[.int .u8 62, .int .i64 ia, .int .i64 ib, .int .i64 ic, .int .u64 imm] :: l) ∧ Below B W0 X) ⟨h.out.gr ((Gr.refl W).alloc _).below, hB.out.trans (((Gr.refl W).alloc _).below.mono h.out.le)⟩ ?_
 clear h hB k0 hkb hne
 rintro V ⟨h, hB⟩
 replace hB := Hz.mk (hB.trans (((Gr.refl V).drew).below.mono h.le))
 replace h := Hz.mk (h.gr ((Gr.refl V).drew).below)
 have k2 : V.drew.cell? ⟨kb, 2, none⟩ = some (.int .i64 ib) := (h.out.there (boxOb kb #[.int .u8 62, .int .i64 ia, .int .i64 ib, .int .i64 ic, .int .u64 imm]) (.head _)).2.1 2
 have k4 : V.drew.cell? ⟨kb, 4, none⟩ = some (.int .u64 imm) := (h.out.there (boxOb kb #[.int .u8 62, .int .i64 ia, .int .i64 ib, .int .i64 ic, .int .u64 imm]) (.head _)).2.1 4
 have kr : V.drew.cell? ⟨b, 6 + ib, none⟩ = some (.int .u64 (s.r ib)) := h.out.hand.2.2 ib _ (regs_at s.r ib hb)
 refine wp_region_held_drew (S := (fun X => (X.cell? ⟨kb, 2, none⟩ = some (.int .i64 ib)) ∧ X.cell? ⟨kb, 4, none⟩ = some (.int .u64 imm) ∧ X.cell? ⟨b, 6 + ib, none⟩ = some (.int .u64 (s.r ib)))) (by kernel_rfl) (⟨k2, k4, kr⟩) (fun hHeld => ?_)
 refine xso 0 ?_ rfl ?_ (xso 1 ?_ rfl ?_ (xso 2 ?_ rfl ?_ (xso 3 ?_ rfl ?_ (xso 4 ?_ rfl ?_ (xso 5 ?_ rfl ?_ (xso 6 ?_ rfl ?_ (xso 7 ?_ rfl ?_ (xso 8 ?_ rfl ?_ ?_))))))))
 iterate 9 (rotate_left; focus ((try simp only [xap]); intro w hSw; (try dsimp only at hSw); go_simp; first | done | with_reducible rfl))
 try simp only [xap]
 refine xtk 9 (v := .int .u64 (A : Int)) rfl (Or.inl ⟨by rfl, ?_⟩) ?_
 · intro w hSw; (try dsimp only at hSw); go_simp; first | done | (rw [hA])
 try simp only [xap]
 refine xso 10 ?_ rfl ?_ ?_
 rotate_left
 · intro w hSw; (try dsimp only at hSw); go_simp; first | done | with_reducible rfl
 try simp only [xap]
 refine xdn ?_ _
 clear hHeld k2 k4 kr
 generalize V.drew = V1 at *
 have hen := Hz.mk (h.out.onBox (s' := { s with e := 7, v := 0, f := 5 }) (og' := s.g) (op' := s.p) ⟨rfl, rfl, rfl, rfl, rfl⟩ (fun q hb => dend_any b _ 7 0 5 V1 hb))
 by_cases hq : 65536 ≤ A
 · have h1 : (65536 : Int) ≤ (A : Int) := by omega
   go_wp2_with fail
   refine hen.out.mono ?_
   rintro r V9 ⟨rfl, h9, hB9⟩
   replace hB := Hz.mk (hB.out.trans hB9)
   replace h9 := Hz.mk h9
   clear hen hB9
   go_wp2_with fail
   first | go_end0 | ((try simp only [Exit.inBlock, Exit.then]); refine bodyPost_ret (results_none rfl _ _ _) rfl ?_)
   exact ⟨rfl, h9.out.drop, hB.out⟩
 · have h1 : ¬ (65536 : Int) ≤ (A : Int) := by omega
   have hw : IntKind.u64.wrap (65536 - (A : Int)) = 65536 - (A : Int) := by rw [IntKind.wrap_u64]; omega
   have h2 : 65536 - (A : Int) < 1 := by omega
   go_wp2_with fail
   refine hen.out.mono ?_
   rintro r V9 ⟨rfl, h9, hB9⟩
   replace hB := Hz.mk (hB.out.trans hB9)
   replace h9 := Hz.mk h9
   clear hen hB9
   go_wp2_with fail
   first | go_end0 | ((try simp only [Exit.inBlock, Exit.then]); refine bodyPost_ret (results_none rfl _ _ _) rfl ?_)
   exact ⟨rfl, h9.out.drop, hB.out⟩
theorem dmf63 (B : Nat) (W0 : World) (b : Nat) (c : Dc) (P : Pr) (s : Fm) (og op : Nat) (l : List Ob) (ia ib ic : Nat) (imm : Int) (h : DIo B W0 b c P s og op l) (hb : ib < 16) (A : Nat) (hA : IntKind.u64.wrap (s.r ib + imm) = (A : Int)) (hf : 65536 - 8 < A) :
   Calls Tryz.prog 55 #[.pointer (some ⟨b, 0, none⟩), .agg #[.int .u8 63, .int .i64 ia, .int .i64 ib, .int .i64 ic, .int .u64 imm]] W0 fun x w' => x = .returned (.tuple #[]) ∧ DIo B w' b c P ({ s with e := 7, v := 0, f := 5 }) s.g s.p l ∧ Below B W0 w' := by
 have h2 := Hz.mk (h.new #[.int .u8 63, .int .i64 ia, .int .i64 ib, .int .i64 ic, .int .u64 imm] 42)
 clear h
 go_enter Tryz.func55, Tryz.ntmps55
 go_upto_region 1 with fail
 refine wp_world (fun W => DIo B W b c P s og op (boxOb W0.heap.size #[.int .u8 63, .int .i64 ia, .int .i64 ib, .int .i64 ic, .int .u64 imm] :: l) ∧ Below B W0 W) h2.out ?_
 rintro W ⟨h, hB⟩
 replace h := Hz.mk h
 replace hB := Hz.mk hB
 clear h2
 generalize W0.heap.size = kb at *
 have KS := xk2 63 ia ib ic imm kb
 have k0 : W.cell? ⟨kb, 0, none⟩ = some (.int .u8 63) := (h.out.there (boxOb kb #[.int .u8 63, .int .i64 ia, .int .i64 ib, .int .i64 ic, .int .u64 imm]) (.head _)).2.1 0
 have hbi : (ib : Int) < 16 := by omega
 have hkb : kb < W.heap.size := (h.out.there (boxOb kb #[.int .u8 63, .int .i64 ia, .int .i64 ib, .int .i64 ic, .int .u64 imm]) (.head _)).1
 have hne : ¬ W.heap.size = kb := by omega
 go_upto_region 2 with fail
 refine wp_world (fun X => DIo B X b c P s og op (boxOb kb #[.int .u8 63, .int .i64 ia, .int .i64 ib, .int .i64 ic, .int .u64 imm] :: l) ∧ Below B W0 X) ⟨h.out.gr ((Gr.refl W).alloc _).below, hB.out.trans (((Gr.refl W).alloc _).below.mono h.out.le)⟩ ?_
 clear h hB k0 hkb hne
 rintro V ⟨h, hB⟩
 replace hB := Hz.mk (hB.trans (((Gr.refl V).drew).below.mono h.le))
 replace h := Hz.mk (h.gr ((Gr.refl V).drew).below)
 have k2 : V.drew.cell? ⟨kb, 2, none⟩ = some (.int .i64 ib) := (h.out.there (boxOb kb #[.int .u8 63, .int .i64 ia, .int .i64 ib, .int .i64 ic, .int .u64 imm]) (.head _)).2.1 2
 have k4 : V.drew.cell? ⟨kb, 4, none⟩ = some (.int .u64 imm) := (h.out.there (boxOb kb #[.int .u8 63, .int .i64 ia, .int .i64 ib, .int .i64 ic, .int .u64 imm]) (.head _)).2.1 4
 have kr : V.drew.cell? ⟨b, 6 + ib, none⟩ = some (.int .u64 (s.r ib)) := h.out.hand.2.2 ib _ (regs_at s.r ib hb)
 refine wp_region_held_drew (S := (fun X => (X.cell? ⟨kb, 2, none⟩ = some (.int .i64 ib)) ∧ X.cell? ⟨kb, 4, none⟩ = some (.int .u64 imm) ∧ X.cell? ⟨b, 6 + ib, none⟩ = some (.int .u64 (s.r ib)))) (by kernel_rfl) (⟨k2, k4, kr⟩) (fun hHeld => ?_)
 refine xso 0 ?_ rfl ?_ (xso 1 ?_ rfl ?_ (xso 2 ?_ rfl ?_ (xso 3 ?_ rfl ?_ (xso 4 ?_ rfl ?_ (xso 5 ?_ rfl ?_ (xso 6 ?_ rfl ?_ (xso 7 ?_ rfl ?_ (xso 8 ?_ rfl ?_ ?_))))))))
 iterate 9 (rotate_left; focus ((try simp only [xap]); intro w hSw; (try dsimp only at hSw); go_simp; first | done | with_reducible rfl))
 try simp only [xap]
 refine xtk 9 (v := .int .u64 (A : Int)) rfl (Or.inl ⟨by rfl, ?_⟩) ?_
 · intro w hSw; (try dsimp only at hSw); go_simp; first | done | (rw [hA])
 try simp only [xap]
 refine xso 10 ?_ rfl ?_ ?_
 rotate_left
 · intro w hSw; (try dsimp only at hSw); go_simp; first | done | with_reducible rfl
 try simp only [xap]
 refine xdn ?_ _
 clear hHeld k2 k4 kr
 generalize V.drew = V1 at *
 have hen := Hz.mk (h.out.onBox (s' := { s with e := 7, v := 0, f := 5 }) (og' := s.g) (op' := s.p) ⟨rfl, rfl, rfl, rfl, rfl⟩ (fun q hb => dend_any b _ 7 0 5 V1 hb))
 by_cases hq : 65536 ≤ A
 · have h1 : (65536 : Int) ≤ (A : Int) := by omega
   go_wp2_with fail
   refine hen.out.mono ?_
   rintro r V9 ⟨rfl, h9, hB9⟩
   replace hB := Hz.mk (hB.out.trans hB9)
   replace h9 := Hz.mk h9
   clear hen hB9
   go_wp2_with fail
   first | go_end0 | ((try simp only [Exit.inBlock, Exit.then]); refine bodyPost_ret (results_none rfl _ _ _) rfl ?_)
   exact ⟨rfl, h9.out.drop, hB.out⟩
 · have h1 : ¬ (65536 : Int) ≤ (A : Int) := by omega
   have hw : IntKind.u64.wrap (65536 - (A : Int)) = 65536 - (A : Int) := by rw [IntKind.wrap_u64]; omega
   have h2 : 65536 - (A : Int) < 8 := by omega
   go_wp2_with fail
   refine hen.out.mono ?_
   rintro r V9 ⟨rfl, h9, hB9⟩
   replace hB := Hz.mk (hB.out.trans hB9)
   replace h9 := Hz.mk h9
   clear hen hB9
   go_wp2_with fail
   first | go_end0 | ((try simp only [Exit.inBlock, Exit.then]); refine bodyPost_ret (results_none rfl _ _ _) rfl ?_)
   exact ⟨rfl, h9.out.drop, hB.out⟩
theorem dmf64 (B : Nat) (W0 : World) (b : Nat) (c : Dc) (P : Pr) (s : Fm) (og op : Nat) (l : List Ob) (ia ib ic : Nat) (imm : Int) (h : DIo B W0 b c P s og op l) (hb : ib < 16) (A : Nat) (hA : IntKind.u64.wrap (s.r ib + imm) = (A : Int)) (hf : 65536 - 16 < A) :
   Calls Tryz.prog 55 #[.pointer (some ⟨b, 0, none⟩), .agg #[.int .u8 64, .int .i64 ia, .int .i64 ib, .int .i64 ic, .int .u64 imm]] W0 fun x w' => x = .returned (.tuple #[]) ∧ DIo B w' b c P ({ s with e := 7, v := 0, f := 5 }) s.g s.p l ∧ Below B W0 w' := by
 have h2 := Hz.mk (h.new #[.int .u8 64, .int .i64 ia, .int .i64 ib, .int .i64 ic, .int .u64 imm] 42)
 clear h
 go_enter Tryz.func55, Tryz.ntmps55
 go_upto_region 1 with fail
 refine wp_world (fun W => DIo B W b c P s og op (boxOb W0.heap.size #[.int .u8 64, .int .i64 ia, .int .i64 ib, .int .i64 ic, .int .u64 imm] :: l) ∧ Below B W0 W) h2.out ?_
 rintro W ⟨h, hB⟩
 replace h := Hz.mk h
 replace hB := Hz.mk hB
 clear h2
 generalize W0.heap.size = kb at *
 have KS := xk2 64 ia ib ic imm kb
 have k0 : W.cell? ⟨kb, 0, none⟩ = some (.int .u8 64) := (h.out.there (boxOb kb #[.int .u8 64, .int .i64 ia, .int .i64 ib, .int .i64 ic, .int .u64 imm]) (.head _)).2.1 0
 have hbi : (ib : Int) < 16 := by omega
 have hkb : kb < W.heap.size := (h.out.there (boxOb kb #[.int .u8 64, .int .i64 ia, .int .i64 ib, .int .i64 ic, .int .u64 imm]) (.head _)).1
 have hne : ¬ W.heap.size = kb := by omega
 go_upto_region 2 with fail
 refine wp_world (fun X => DIo B X b c P s og op (boxOb kb #[.int .u8 64, .int .i64 ia, .int .i64 ib, .int .i64 ic, .int .u64 imm] :: l) ∧ Below B W0 X) ⟨h.out.gr ((Gr.refl W).alloc _).below, hB.out.trans (((Gr.refl W).alloc _).below.mono h.out.le)⟩ ?_
 clear h hB k0 hkb hne
 rintro V ⟨h, hB⟩
 replace hB := Hz.mk (hB.trans (((Gr.refl V).drew).below.mono h.le))
 replace h := Hz.mk (h.gr ((Gr.refl V).drew).below)
 have k2 : V.drew.cell? ⟨kb, 2, none⟩ = some (.int .i64 ib) := (h.out.there (boxOb kb #[.int .u8 64, .int .i64 ia, .int .i64 ib, .int .i64 ic, .int .u64 imm]) (.head _)).2.1 2
 have k4 : V.drew.cell? ⟨kb, 4, none⟩ = some (.int .u64 imm) := (h.out.there (boxOb kb #[.int .u8 64, .int .i64 ia, .int .i64 ib, .int .i64 ic, .int .u64 imm]) (.head _)).2.1 4
 have kr : V.drew.cell? ⟨b, 6 + ib, none⟩ = some (.int .u64 (s.r ib)) := h.out.hand.2.2 ib _ (regs_at s.r ib hb)
 refine wp_region_held_drew (S := (fun X => (X.cell? ⟨kb, 2, none⟩ = some (.int .i64 ib)) ∧ X.cell? ⟨kb, 4, none⟩ = some (.int .u64 imm) ∧ X.cell? ⟨b, 6 + ib, none⟩ = some (.int .u64 (s.r ib)))) (by kernel_rfl) (⟨k2, k4, kr⟩) (fun hHeld => ?_)
 refine xso 0 ?_ rfl ?_ (xso 1 ?_ rfl ?_ (xso 2 ?_ rfl ?_ (xso 3 ?_ rfl ?_ (xso 4 ?_ rfl ?_ (xso 5 ?_ rfl ?_ (xso 6 ?_ rfl ?_ (xso 7 ?_ rfl ?_ (xso 8 ?_ rfl ?_ ?_))))))))
 iterate 9 (rotate_left; focus ((try simp only [xap]); intro w hSw; (try dsimp only at hSw); go_simp; first | done | with_reducible rfl))
 try simp only [xap]
 refine xtk 9 (v := .int .u64 (A : Int)) rfl (Or.inl ⟨by rfl, ?_⟩) ?_
 · intro w hSw; (try dsimp only at hSw); go_simp; first | done | (rw [hA])
 try simp only [xap]
 refine xso 10 ?_ rfl ?_ ?_
 rotate_left
 · intro w hSw; (try dsimp only at hSw); go_simp; first | done | with_reducible rfl
 try simp only [xap]
 refine xdn ?_ _
 clear hHeld k2 k4 kr
 generalize V.drew = V1 at *
 have hen := Hz.mk (h.out.onBox (s' := { s with e := 7, v := 0, f := 5 }) (og' := s.g) (op' := s.p) ⟨rfl, rfl, rfl, rfl, rfl⟩ (fun q hb => dend_any b _ 7 0 5 V1 hb))
 by_cases hq : 65536 ≤ A
 · have h1 : (65536 : Int) ≤ (A : Int) := by omega
   go_wp2_with fail
   refine hen.out.mono ?_
   rintro r V9 ⟨rfl, h9, hB9⟩
   replace hB := Hz.mk (hB.out.trans hB9)
   replace h9 := Hz.mk h9
   clear hen hB9
   go_wp2_with fail
   first | go_end0 | ((try simp only [Exit.inBlock, Exit.then]); refine bodyPost_ret (results_none rfl _ _ _) rfl ?_)
   exact ⟨rfl, h9.out.drop, hB.out⟩
 · have h1 : ¬ (65536 : Int) ≤ (A : Int) := by omega
   have hw : IntKind.u64.wrap (65536 - (A : Int)) = 65536 - (A : Int) := by rw [IntKind.wrap_u64]; omega
   have h2 : 65536 - (A : Int) < 16 := by omega
   go_wp2_with fail
   refine hen.out.mono ?_
   rintro r V9 ⟨rfl, h9, hB9⟩
   replace hB := Hz.mk (hB.out.trans hB9)
   replace h9 := Hz.mk h9
   clear hen hB9
   go_wp2_with fail
   first | go_end0 | ((try simp only [Exit.inBlock, Exit.then]); refine bodyPost_ret (results_none rfl _ _ _) rfl ?_)
   exact ⟨rfl, h9.out.drop, hB.out⟩
theorem dmf65 (B : Nat) (W0 : World) (b : Nat) (c : Dc) (P : Pr) (s : Fm) (og op : Nat) (l : List Ob) (ia ib ic : Nat) (imm : Int) (h : DIo B W0 b c P s og op l) (hb : ib < 16) (A : Nat) (hA : IntKind.u64.wrap (s.r ib + imm) = (A : Int)) (hf : 65536 - 16 < A) :
   Calls Tryz.prog 55 #[.pointer (some ⟨b, 0, none⟩), .agg #[.int .u8 65, .int .i64 ia, .int .i64 ib, .int .i64 ic, .int .u64 imm]] W0 fun x w' => x = .returned (.tuple #[]) ∧ DIo B w' b c P ({ s with e := 7, v := 0, f := 5 }) s.g s.p l ∧ Below B W0 w' := by
 have h2 := Hz.mk (h.new #[.int .u8 65, .int .i64 ia, .int .i64 ib, .int .i64 ic, .int .u64 imm] 42)
 clear h
 go_enter Tryz.func55, Tryz.ntmps55
 go_upto_region 1 with fail
 refine wp_world (fun W => DIo B W b c P s og op (boxOb W0.heap.size #[.int .u8 65, .int .i64 ia, .int .i64 ib, .int .i64 ic, .int .u64 imm] :: l) ∧ Below B W0 W) h2.out ?_
 rintro W ⟨h, hB⟩
 replace h := Hz.mk h
 replace hB := Hz.mk hB
 clear h2
 generalize W0.heap.size = kb at *
 have KS := xk2 65 ia ib ic imm kb
 have k0 : W.cell? ⟨kb, 0, none⟩ = some (.int .u8 65) := (h.out.there (boxOb kb #[.int .u8 65, .int .i64 ia, .int .i64 ib, .int .i64 ic, .int .u64 imm]) (.head _)).2.1 0
 have hbi : (ib : Int) < 16 := by omega
 have hkb : kb < W.heap.size := (h.out.there (boxOb kb #[.int .u8 65, .int .i64 ia, .int .i64 ib, .int .i64 ic, .int .u64 imm]) (.head _)).1
 have hne : ¬ W.heap.size = kb := by omega
 go_upto_region 2 with fail
 refine wp_world (fun X => DIo B X b c P s og op (boxOb kb #[.int .u8 65, .int .i64 ia, .int .i64 ib, .int .i64 ic, .int .u64 imm] :: l) ∧ Below B W0 X) ⟨h.out.gr ((Gr.refl W).alloc _).below, hB.out.trans (((Gr.refl W).alloc _).below.mono h.out.le)⟩ ?_
 clear h hB k0 hkb hne
 rintro V ⟨h, hB⟩
 replace hB := Hz.mk (hB.trans (((Gr.refl V).drew).below.mono h.le))
 replace h := Hz.mk (h.gr ((Gr.refl V).drew).below)
 have k2 : V.drew.cell? ⟨kb, 2, none⟩ = some (.int .i64 ib) := (h.out.there (boxOb kb #[.int .u8 65, .int .i64 ia, .int .i64 ib, .int .i64 ic, .int .u64 imm]) (.head _)).2.1 2
 have k4 : V.drew.cell? ⟨kb, 4, none⟩ = some (.int .u64 imm) := (h.out.there (boxOb kb #[.int .u8 65, .int .i64 ia, .int .i64 ib, .int .i64 ic, .int .u64 imm]) (.head _)).2.1 4
 have kr : V.drew.cell? ⟨b, 6 + ib, none⟩ = some (.int .u64 (s.r ib)) := h.out.hand.2.2 ib _ (regs_at s.r ib hb)
 refine wp_region_held_drew (S := (fun X => (X.cell? ⟨kb, 2, none⟩ = some (.int .i64 ib)) ∧ X.cell? ⟨kb, 4, none⟩ = some (.int .u64 imm) ∧ X.cell? ⟨b, 6 + ib, none⟩ = some (.int .u64 (s.r ib)))) (by kernel_rfl) (⟨k2, k4, kr⟩) (fun hHeld => ?_)
 refine xso 0 ?_ rfl ?_ (xso 1 ?_ rfl ?_ (xso 2 ?_ rfl ?_ (xso 3 ?_ rfl ?_ (xso 4 ?_ rfl ?_ (xso 5 ?_ rfl ?_ (xso 6 ?_ rfl ?_ (xso 7 ?_ rfl ?_ (xso 8 ?_ rfl ?_ ?_))))))))
 iterate 9 (rotate_left; focus ((try simp only [xap]); intro w hSw; (try dsimp only at hSw); go_simp; first | done | with_reducible rfl))
 try simp only [xap]
 refine xtk 9 (v := .int .u64 (A : Int)) rfl (Or.inl ⟨by rfl, ?_⟩) ?_
 · intro w hSw; (try dsimp only at hSw); go_simp; first | done | (rw [hA])
 try simp only [xap]
 refine xso 10 ?_ rfl ?_ ?_
 rotate_left
 · intro w hSw; (try dsimp only at hSw); go_simp; first | done | with_reducible rfl
 try simp only [xap]
 refine xdn ?_ _
 clear hHeld k2 k4 kr
 generalize V.drew = V1 at *
 have hen := Hz.mk (h.out.onBox (s' := { s with e := 7, v := 0, f := 5 }) (og' := s.g) (op' := s.p) ⟨rfl, rfl, rfl, rfl, rfl⟩ (fun q hb => dend_any b _ 7 0 5 V1 hb))
 by_cases hq : 65536 ≤ A
 · have h1 : (65536 : Int) ≤ (A : Int) := by omega
   go_wp2_with fail
   refine hen.out.mono ?_
   rintro r V9 ⟨rfl, h9, hB9⟩
   replace hB := Hz.mk (hB.out.trans hB9)
   replace h9 := Hz.mk h9
   clear hen hB9
   go_wp2_with fail
   first | go_end0 | ((try simp only [Exit.inBlock, Exit.then]); refine bodyPost_ret (results_none rfl _ _ _) rfl ?_)
   exact ⟨rfl, h9.out.drop, hB.out⟩
 · have h1 : ¬ (65536 : Int) ≤ (A : Int) := by omega
   have hw : IntKind.u64.wrap (65536 - (A : Int)) = 65536 - (A : Int) := by rw [IntKind.wrap_u64]; omega
   have h2 : 65536 - (A : Int) < 16 := by omega
   go_wp2_with fail
   refine hen.out.mono ?_
   rintro r V9 ⟨rfl, h9, hB9⟩
   replace hB := Hz.mk (hB.out.trans hB9)
   replace h9 := Hz.mk h9
   clear hen hB9
   go_wp2_with fail
   first | go_end0 | ((try simp only [Exit.inBlock, Exit.then]); refine bodyPost_ret (results_none rfl _ _ _) rfl ?_)
   exact ⟨rfl, h9.out.drop, hB.out⟩
end Z
end Go.Proofs.YthfphgjjieddjaaGreat


namespace Go.Proofs.YthfphgjjieddjaaGreat
set_option maxRecDepth 100000
set_option maxHeartbeats 40000000
namespace Z
open Go.RowKit
open T (Sep Ob Kp Mf FlIn boxOb)

theorem le_next (m : Nat → UInt8) (A j : Nat) (h : j < 8) : IntKind.u64.wrap ((T.leB m A (min j 8) : Nat) + IntKind.u64.wrap (IntKind.u64.wrap ((m (A + j)).toNat : Int) * 2 ^ (8 * j))) = ((T.leB m A (min (j + 1) 8) : Nat) : Int) := by
 rw [show min (j + 1) 8 = j + 1 by omega, show min j 8 = j by omega]
 have hb := (m (A + j)).toNat_lt
 have e : T.leB m A (j + 1) = T.leB m A j + (m (A + j)).toNat * 2 ^ (8 * j) := rfl
 have lt := T.leB_lt m A (j + 1)
 have l64 : 2 ^ (8 * (j + 1)) ≤ 18446744073709551616 := Nat.le_trans (Nat.pow_le_pow_right (by omega) (show 8 * (j + 1) ≤ 64 by omega)) (by decide)
 have hc : ((m (A + j)).toNat : Int) * 2 ^ (8 * j) = (((m (A + j)).toNat * 2 ^ (8 * j) : Nat) : Int) := by simp
 rw [IntKind.wrap_u64, IntKind.wrap_u64, IntKind.wrap_u64, Int.emod_eq_of_lt (a := ((m (A + j)).toNat : Int)) (by omega) (by omega), hc]
 generalize (m (A + j)).toNat * 2 ^ (8 * j) = X at *
 rw [Int.emod_eq_of_lt (a := (X : Int)) (by omega) (by omega), Int.emod_eq_of_lt (by omega) (by omega)]
 omega
theorem dml60 (B : Nat) (W0 : World) (b : Nat) (c : Dc) (P : Pr) (s : Fm) (og op : Nat) (l : List Ob) (ia ib ic : Nat) (imm : Int) (h : DIo B W0 b c P s og op l) (hb : ib < 16) (A : Nat) (hA : IntKind.u64.wrap (s.r ib + imm) = (A : Int)) (ha : ia < 16) (hf : A ≤ 65536 - 1) (htl : s.tc.length ≤ 1000000) (hp : s.p ≤ 1000000) :
   Calls Tryz.prog 55 #[.pointer (some ⟨b, 0, none⟩), .agg #[.int .u8 60, .int .i64 ia, .int .i64 ib, .int .i64 ic, .int .u64 imm]] W0 fun x w' => x = .returned (.tuple #[]) ∧ DIo B w' b c P ({ s with r := updR s.r ia (T.leB s.m A 1 : Nat), tc := s.tc ++ [⟨false, (A : Int), 1⟩], p := s.p + 1 }) og op l ∧ Below B W0 w' := by
 have h2 := Hz.mk (h.new #[.int .u8 60, .int .i64 ia, .int .i64 ib, .int .i64 ic, .int .u64 imm] 42)
 clear h
 go_enter Tryz.func55, Tryz.ntmps55
 go_upto_region 1 with fail
 refine wp_world (fun W => DIo B W b c P s og op (boxOb W0.heap.size #[.int .u8 60, .int .i64 ia, .int .i64 ib, .int .i64 ic, .int .u64 imm] :: l) ∧ Below B W0 W) h2.out ?_
 rintro W ⟨h, hB⟩
 replace h := Hz.mk h
 replace hB := Hz.mk hB
 clear h2
 generalize W0.heap.size = kb at *
 have KS := xk2 60 ia ib ic imm kb
 have k0 : W.cell? ⟨kb, 0, none⟩ = some (.int .u8 60) := (h.out.there (boxOb kb #[.int .u8 60, .int .i64 ia, .int .i64 ib, .int .i64 ic, .int .u64 imm]) (.head _)).2.1 0
 have hbi : (ib : Int) < 16 := by omega
 have hkb : kb < W.heap.size := (h.out.there (boxOb kb #[.int .u8 60, .int .i64 ia, .int .i64 ib, .int .i64 ic, .int .u64 imm]) (.head _)).1
 have hne : ¬ W.heap.size = kb := by omega
 go_upto_region 2 with fail
 refine wp_world (fun X => DIo B X b c P s og op (boxOb kb #[.int .u8 60, .int .i64 ia, .int .i64 ib, .int .i64 ic, .int .u64 imm] :: l) ∧ Below B W0 X) ⟨h.out.gr ((Gr.refl W).alloc _).below, hB.out.trans (((Gr.refl W).alloc _).below.mono h.out.le)⟩ ?_
 clear h hB k0 hkb hne
 rintro V ⟨h, hB⟩
 replace hB := Hz.mk (hB.trans (((Gr.refl V).drew).below.mono h.le))
 replace h := Hz.mk (h.gr ((Gr.refl V).drew).below)
 have k2 : V.drew.cell? ⟨kb, 2, none⟩ = some (.int .i64 ib) := (h.out.there (boxOb kb #[.int .u8 60, .int .i64 ia, .int .i64 ib, .int .i64 ic, .int .u64 imm]) (.head _)).2.1 2
 have k4 : V.drew.cell? ⟨kb, 4, none⟩ = some (.int .u64 imm) := (h.out.there (boxOb kb #[.int .u8 60, .int .i64 ia, .int .i64 ib, .int .i64 ic, .int .u64 imm]) (.head _)).2.1 4
 have kr : V.drew.cell? ⟨b, 6 + ib, none⟩ = some (.int .u64 (s.r ib)) := h.out.hand.2.2 ib _ (regs_at s.r ib hb)
 refine wp_region_held_drew (S := (fun X => (X.cell? ⟨kb, 2, none⟩ = some (.int .i64 ib)) ∧ X.cell? ⟨kb, 4, none⟩ = some (.int .u64 imm) ∧ X.cell? ⟨b, 6 + ib, none⟩ = some (.int .u64 (s.r ib)))) (by kernel_rfl) (⟨k2, k4, kr⟩) (fun hHeld => ?_)
 refine xso 0 ?_ rfl ?_ (xso 1 ?_ rfl ?_ (xso 2 ?_ rfl ?_ (xso 3 ?_ rfl ?_ (xso 4 ?_ rfl ?_ (xso 5 ?_ rfl ?_ (xso 6 ?_ rfl ?_ (xso 7 ?_ rfl ?_ (xso 8 ?_ rfl ?_ ?_))))))))
 iterate 9 (rotate_left; focus ((try simp only [xap]); intro w hSw; (try dsimp only at hSw); go_simp; first | done | with_reducible rfl))
 try simp only [xap]
 refine xtk 9 (v := .int .u64 (A : Int)) rfl (Or.inl ⟨by rfl, ?_⟩) ?_
 · intro w hSw; (try dsimp only at hSw); go_simp; first | done | (rw [hA])
 try simp only [xap]
 refine xso 10 ?_ rfl ?_ ?_
 rotate_left
 · intro w hSw; (try dsimp only at hSw); go_simp; first | done | with_reducible rfl
 try simp only [xap]
 refine xdn ?_ _
 clear hHeld k2 k4 kr
 generalize V.drew = V1 at *
 have h1 : ¬ (65536 : Int) ≤ (A : Int) := by omega
 have hw : IntKind.u64.wrap (65536 - (A : Int)) = 65536 - (A : Int) := by rw [IntKind.wrap_u64]; omega
 have h2 : ¬ 65536 - (A : Int) < 1 := by omega
 have k0 : V1.cell? ⟨kb, 0, none⟩ = some (.int .u8 60) := (h.out.there (boxOb kb #[.int .u8 60, .int .i64 ia, .int .i64 ib, .int .i64 ic, .int .u64 imm]) (.head _)).2.1 0
 have hai : (ia : Int) < 16 := by omega
 go_upto_region 7 with fail
 clear k0 h1 hw h2
 have k1 : V1.drew.cell? ⟨kb, 1, none⟩ = some (.int .i64 ia) := (h.out.there (boxOb kb #[.int .u8 60, .int .i64 ia, .int .i64 ib, .int .i64 ic, .int .u64 imm]) (.head _)).2.1 1
 have kr : V1.drew.cell? ⟨b, 6 + ia, none⟩ = some (.int .u64 (s.r ia)) := h.out.hand.2.2 ia _ (regs_at s.r ia ha)
 refine wp_region_held_drew (S := (fun X => (X.cell? ⟨kb, 1, none⟩ = some (.int .i64 ia)) ∧ X.cell? ⟨b, 6 + ia, none⟩ = some (.int .u64 (s.r ia)))) (by kernel_rfl) (⟨k1, kr⟩) (fun hHeld => ?_)
 refine xso 0 ?_ rfl ?_ (xso 1 ?_ rfl ?_ (xso 2 ?_ rfl ?_ (xso 3 ?_ rfl ?_ (xso 4 ?_ rfl ?_ (xso 5 ?_ rfl ?_ (xso 6 ?_ rfl ?_ (xso 7 ?_ rfl ?_ ?_)))))))
 iterate 8 (rotate_left; focus ((try simp only [xap]); intro w hSw; (try dsimp only at hSw); go_simp; first | done | with_reducible rfl))
 try simp only [xap]
 refine xdn ?_ _
 clear hHeld k1 kr
 replace hB := Hz.mk (hB.out.trans (((Gr.refl V1).drew).below.mono h.out.le))
 replace h := Hz.mk (h.out.gr ((Gr.refl V1).drew).below)
 generalize V1.drew = V2 at *
 obtain ⟨gm, km, c23, hgm, hmem, _⟩ := h.out.mem
 go_upto_region 9 with fail
 go_loopw [7, 9] (fun y x wr => ∃ j N : Nat, x = .int .u64 j ∧ y = .int .u64 N ∧ j ≤ 1 ∧ Hz (N = T.leB s.m A (min j 8)) ∧ wr = V2) (fun _ x _ => 1 - (intOf x).toNat)
 case atStart => exact ⟨0, 0, rfl, rfl, by omega, Hz.mk rfl, rfl⟩
 case round =>
   obtain ⟨j, N, rfl, rfl, hj, hN, rfl⟩ := hrel
   by_cases hq : j < 1
   · have hq1 : (j : Int) < 1 := by omega
     have hw1 : IntKind.u64.wrap ((j : Int) + 1) = (j : Int) + 1 := by rw [IntKind.wrap_u64]; omega
     have h8 : j < 8 := by omega
     have h81 : (j : Int) < 8 := by omega
     have hwa : IntKind.u64.wrap ((A : Int) + (j : Int)) = (A : Int) + (j : Int) := by rw [IntKind.wrap_u64]; omega
     have hw8 : IntKind.u64.wrap (8 * (j : Int)) = 8 * (j : Int) := by rw [IntKind.wrap_u64]; omega
     have hix : (A : Int) + (j : Int) < 65536 := by omega
     have cm := (hmem (A + j) (by omega)).1
     have hnx := Hz.mk (le_next s.m A j h8)
     rw [← hN.out] at hnx
     go_wp2_with fail
     refine And.intro (Exists.intro (j + 1) (Exists.intro (T.leB s.m A (min (j + 1) 8)) ⟨rfl, congrArg (Value.int IntKind.u64) hnx.out, by omega, Hz.mk rfl, trivial⟩)) ?_
     simp [intOf]
     omega
   · have hq1 : ¬ (j : Int) < 1 := by omega
     obtain rfl : j = 1 := by omega
     have hN2 : Hz (N = T.leB s.m A 1) := Hz.mk hN.out
     clear hN hmem c23 hgm
     go_upto_region 17 with fail
     have gd : Gr wr wr.drew := (Gr.refl wr).drew
     replace hB := Hz.mk (hB.out.trans (gd.below.mono h.out.le))
     have hd := Hz.mk (h.out.gr gd.below)
     clear gd h
     have rr : ∃ y, wr.drew.cell? ⟨b, 6 + ia, none⟩ = some y := by obtain ⟨q, hq⟩ := hd.out.box; exact ⟨_, hq.at_ (6 + ia) (by omega)⟩
     obtain ⟨y0, rr⟩ := rr
     have rf : wr.drew.frozen? ⟨b, 6 + ia, none⟩ = false := by obtain ⟨q, hq⟩ := hd.out.box; exact hq.fr _
     have hlt : b < wr.drew.heap.size := by obtain ⟨q, hq⟩ := hd.out.box; exact hq.lt
     have hrg := Hz.mk (hd.out.reg ia ha (N : Int))
     refine wp_region_held_drew (S := (fun W => W.cell? ⟨kb, 0, none⟩ = some (.int .u8 60) ∧ W.cell? ⟨kb, 1, none⟩ = some (.int .i64 ia) ∧ W.cell? ⟨kb, 2, none⟩ = some (.int .i64 ib) ∧ W.cell? ⟨kb, 3, none⟩ = some (.int .i64 ic) ∧ W.cell? ⟨kb, 4, none⟩ = some (.int .u64 imm))) (by kernel_rfl) (KS.out _ (hd.out.there (boxOb kb #[.int .u8 60, .int .i64 ia, .int .i64 ib, .int .i64 ic, .int .u64 imm]) (.head _))) (fun hHeld => ?_)
     generalize wr.drew = V3 at *
     refine xso 0 ?_ rfl ?_ (xso 1 ?_ rfl ?_ (xso 2 ?_ rfl ?_ (xso 3 ?_ rfl ?_ (xso 4 ?_ rfl ?_ (xso 5 ?_ rfl ?_ (xso 6 ?_ rfl ?_ ?_))))))
     iterate 7 (rotate_left; focus ((try simp only [xap]); intro w hSw; (try dsimp only at hSw); go_simp; first | done | with_reducible rfl))
     try simp only [xap]
     refine xrd 7 rfl (fun K hK => ?_)
     go_simp
     refine hK.out _ _ (KS.out _ (hrg.out.1.there (boxOb kb #[.int .u8 60, .int .i64 ia, .int .i64 ib, .int .i64 ic, .int .u64 imm]) (.head _))) (fun hHeld => ?_)
     clear hK K
     try simp only [xap]
     refine xdn ?_ _
     clear hHeld rr rf hlt
     replace hB := Hz.mk (hB.out.trans hrg.out.2)
     have h := Hz.mk hrg.out.1
     clear hrg hd
     generalize World.setCell _ _ _ = V4 at *
     obtain ⟨q, ta, tk, hq, c26, hO2, hap⟩ := h.out.appT ⟨false, (A : Int), 1⟩
     have hlt := hq.lt
     have hleW := h.out.le
     clear hq
     replace hO2 := Hz.mk hO2
     replace hap := Hz.mk hap
     have hxs : ∃ xs, s.tc.flatMap Tc.vals = xs := ⟨_, rfl⟩
     obtain ⟨xs, hxs⟩ := hxs
     rw [hxs] at hO2 hap
     clear hxs
     go_upto_region 18 with fail
     refine wp_region_lit ?_
     iterate 10 (refine wpList_plain rfl (fun K hK => ?_); go_simp; with_reducible refine hK _ _ ?_; clear hK K; (try simp only [xap]))
     have hX : At (V4.alloc (.cells (List.toArray [Value.bool false, .int .u64 (A : Int), .int .u64 1]) 56)) V4.heap.size (List.toArray [Value.bool false, .int .u64 (A : Int), .int .u64 1]) := At.new V4 _ _
     have gX : Gr V4 (V4.alloc (.cells (List.toArray [Value.bool false, .int .u64 (A : Int), .int .u64 1]) 56)) := (Gr.refl V4).alloc _
     generalize V4.alloc (.cells (List.toArray [Value.bool false, .int .u64 (A : Int), .int .u64 1]) 56) = VX at *
     generalize V4.heap.size = kX at hX ⊢
     refine wpList_plain rfl (fun K hK => ?_)
     refine wp_append_z _ _ 53 56 (.agg #[.bool false, .int .u64 0, .int .u64 0]) 3 24 rfl Tryz.underlying53 (by kernel_rfl) (by kernel_rfl) (by decide) (by decide) B (.slice ta s.tc.length tk) s.tc.length xs [Value.bool false, .int .u64 (A : Int), .int .u64 1] (by rfl) (hO2.out VX gX.below) kX (by rfl) hX rfl (by simp [Value.oneCell']) htl (Nat.le_trans hleW gX.below.size) ?_
     intro g cap W2 k1 k2 k3
     obtain ⟨hq2, hA2, hM, hBe⟩ := hap.out VX W2 g cap gX.below k1 k2 k3
     have cu : W2.cell? ⟨b, 26, none⟩ = some _ := hq2.at_ 26 (by omega)
     have fu := hq2.fr 26
     have hlt2 := hq2.lt
     replace hM := Hz.mk hM
     clear hap hO2 k1 k2 k3 hq2 hA2 hX gX
     with_reducible refine hK _ _ ?_
     clear hK K
     try simp only [xap]
     iterate 2 (refine wpList_plain rfl (fun K hK => ?_); go_simp; with_reducible refine hK _ _ ?_; clear hK K; (try simp only [xap]))
     refine wpList_plain rfl (fun K hK => ?_)
     go_simp
     with_reducible refine hK _ _ ?_
     clear hK K
     try simp only [Act.put]
     replace hB := Hz.mk (hB.out.trans hBe)
     clear hBe h cu fu hlt2 hlt c26 hleW
     generalize World.setCell _ _ _ = V5 at *
     have h := hM
     clear hM
     have c5 : V5.cell? ⟨b, 5, none⟩ = some (.int .i64 s.p) := by obtain ⟨q, hq⟩ := h.out.box; exact hq.at_ 5 (by omega)
     have f5 : V5.frozen? ⟨b, 5, none⟩ = false := by obtain ⟨q, hq⟩ := h.out.box; exact hq.fr 5
     have hlt : b < V5.heap.size := by obtain ⟨q, hq⟩ := h.out.box; exact hq.lt
     have hw5 : wrap64 ((s.p : Int) + 1) = (s.p : Int) + 1 := by unfold wrap64; omega
     have hpc := Hz.mk h.out.pc
     go_wp2_with fail
     first | go_end0 | ((try simp only [Exit.inBlock, Exit.then]); refine bodyPost_ret (results_none rfl _ _ _) rfl ?_)
     rw [← hN2.out]
     refine ⟨rfl, hpc.out.1.drop, hB.out.trans hpc.out.2⟩
theorem dml61 (B : Nat) (W0 : World) (b : Nat) (c : Dc) (P : Pr) (s : Fm) (og op : Nat) (l : List Ob) (ia ib ic : Nat) (imm : Int) (h : DIo B W0 b c P s og op l) (hb : ib < 16) (A : Nat) (hA : IntKind.u64.wrap (s.r ib + imm) = (A : Int)) (ha : ia < 16) (hf : A ≤ 65536 - 8) (htl : s.tc.length ≤ 1000000) (hp : s.p ≤ 1000000) :
   Calls Tryz.prog 55 #[.pointer (some ⟨b, 0, none⟩), .agg #[.int .u8 61, .int .i64 ia, .int .i64 ib, .int .i64 ic, .int .u64 imm]] W0 fun x w' => x = .returned (.tuple #[]) ∧ DIo B w' b c P ({ s with r := updR s.r ia (T.leB s.m A 8 : Nat), tc := s.tc ++ [⟨false, (A : Int), 8⟩], p := s.p + 1 }) og op l ∧ Below B W0 w' := by
 have h2 := Hz.mk (h.new #[.int .u8 61, .int .i64 ia, .int .i64 ib, .int .i64 ic, .int .u64 imm] 42)
 clear h
 go_enter Tryz.func55, Tryz.ntmps55
 go_upto_region 1 with fail
 refine wp_world (fun W => DIo B W b c P s og op (boxOb W0.heap.size #[.int .u8 61, .int .i64 ia, .int .i64 ib, .int .i64 ic, .int .u64 imm] :: l) ∧ Below B W0 W) h2.out ?_
 rintro W ⟨h, hB⟩
 replace h := Hz.mk h
 replace hB := Hz.mk hB
 clear h2
 generalize W0.heap.size = kb at *
 have KS := xk2 61 ia ib ic imm kb
 have k0 : W.cell? ⟨kb, 0, none⟩ = some (.int .u8 61) := (h.out.there (boxOb kb #[.int .u8 61, .int .i64 ia, .int .i64 ib, .int .i64 ic, .int .u64 imm]) (.head _)).2.1 0
 have hbi : (ib : Int) < 16 := by omega
 have hkb : kb < W.heap.size := (h.out.there (boxOb kb #[.int .u8 61, .int .i64 ia, .int .i64 ib, .int .i64 ic, .int .u64 imm]) (.head _)).1
 have hne : ¬ W.heap.size = kb := by omega
 go_upto_region 2 with fail
 refine wp_world (fun X => DIo B X b c P s og op (boxOb kb #[.int .u8 61, .int .i64 ia, .int .i64 ib, .int .i64 ic, .int .u64 imm] :: l) ∧ Below B W0 X) ⟨h.out.gr ((Gr.refl W).alloc _).below, hB.out.trans (((Gr.refl W).alloc _).below.mono h.out.le)⟩ ?_
 clear h hB k0 hkb hne
 rintro V ⟨h, hB⟩
 replace hB := Hz.mk (hB.trans (((Gr.refl V).drew).below.mono h.le))
 replace h := Hz.mk (h.gr ((Gr.refl V).drew).below)
 have k2 : V.drew.cell? ⟨kb, 2, none⟩ = some (.int .i64 ib) := (h.out.there (boxOb kb #[.int .u8 61, .int .i64 ia, .int .i64 ib, .int .i64 ic, .int .u64 imm]) (.head _)).2.1 2
 have k4 : V.drew.cell? ⟨kb, 4, none⟩ = some (.int .u64 imm) := (h.out.there (boxOb kb #[.int .u8 61, .int .i64 ia, .int .i64 ib, .int .i64 ic, .int .u64 imm]) (.head _)).2.1 4
 have kr : V.drew.cell? ⟨b, 6 + ib, none⟩ = some (.int .u64 (s.r ib)) := h.out.hand.2.2 ib _ (regs_at s.r ib hb)
 refine wp_region_held_drew (S := (fun X => (X.cell? ⟨kb, 2, none⟩ = some (.int .i64 ib)) ∧ X.cell? ⟨kb, 4, none⟩ = some (.int .u64 imm) ∧ X.cell? ⟨b, 6 + ib, none⟩ = some (.int .u64 (s.r ib)))) (by kernel_rfl) (⟨k2, k4, kr⟩) (fun hHeld => ?_)
 refine xso 0 ?_ rfl ?_ (xso 1 ?_ rfl ?_ (xso 2 ?_ rfl ?_ (xso 3 ?_ rfl ?_ (xso 4 ?_ rfl ?_ (xso 5 ?_ rfl ?_ (xso 6 ?_ rfl ?_ (xso 7 ?_ rfl ?_ (xso 8 ?_ rfl ?_ ?_))))))))
 iterate 9 (rotate_left; focus ((try simp only [xap]); intro w hSw; (try dsimp only at hSw); go_simp; first | done | with_reducible rfl))
 try simp only [xap]
 refine xtk 9 (v := .int .u64 (A : Int)) rfl (Or.inl ⟨by rfl, ?_⟩) ?_
 · intro w hSw; (try dsimp only at hSw); go_simp; first | done | (rw [hA])
 try simp only [xap]
 refine xso 10 ?_ rfl ?_ ?_
 rotate_left
 · intro w hSw; (try dsimp only at hSw); go_simp; first | done | with_reducible rfl
 try simp only [xap]
 refine xdn ?_ _
 clear hHeld k2 k4 kr
 generalize V.drew = V1 at *
 have h1 : ¬ (65536 : Int) ≤ (A : Int) := by omega
 have hw : IntKind.u64.wrap (65536 - (A : Int)) = 65536 - (A : Int) := by rw [IntKind.wrap_u64]; omega
 have h2 : ¬ 65536 - (A : Int) < 8 := by omega
 have k0 : V1.cell? ⟨kb, 0, none⟩ = some (.int .u8 61) := (h.out.there (boxOb kb #[.int .u8 61, .int .i64 ia, .int .i64 ib, .int .i64 ic, .int .u64 imm]) (.head _)).2.1 0
 have hai : (ia : Int) < 16 := by omega
 go_upto_region 7 with fail
 clear k0 h1 hw h2
 have k1 : V1.drew.cell? ⟨kb, 1, none⟩ = some (.int .i64 ia) := (h.out.there (boxOb kb #[.int .u8 61, .int .i64 ia, .int .i64 ib, .int .i64 ic, .int .u64 imm]) (.head _)).2.1 1
 have kr : V1.drew.cell? ⟨b, 6 + ia, none⟩ = some (.int .u64 (s.r ia)) := h.out.hand.2.2 ia _ (regs_at s.r ia ha)
 refine wp_region_held_drew (S := (fun X => (X.cell? ⟨kb, 1, none⟩ = some (.int .i64 ia)) ∧ X.cell? ⟨b, 6 + ia, none⟩ = some (.int .u64 (s.r ia)))) (by kernel_rfl) (⟨k1, kr⟩) (fun hHeld => ?_)
 refine xso 0 ?_ rfl ?_ (xso 1 ?_ rfl ?_ (xso 2 ?_ rfl ?_ (xso 3 ?_ rfl ?_ (xso 4 ?_ rfl ?_ (xso 5 ?_ rfl ?_ (xso 6 ?_ rfl ?_ (xso 7 ?_ rfl ?_ ?_)))))))
 iterate 8 (rotate_left; focus ((try simp only [xap]); intro w hSw; (try dsimp only at hSw); go_simp; first | done | with_reducible rfl))
 try simp only [xap]
 refine xdn ?_ _
 clear hHeld k1 kr
 replace hB := Hz.mk (hB.out.trans (((Gr.refl V1).drew).below.mono h.out.le))
 replace h := Hz.mk (h.out.gr ((Gr.refl V1).drew).below)
 generalize V1.drew = V2 at *
 obtain ⟨gm, km, c23, hgm, hmem, _⟩ := h.out.mem
 go_upto_region 9 with fail
 go_loopw [7, 9] (fun y x wr => ∃ j N : Nat, x = .int .u64 j ∧ y = .int .u64 N ∧ j ≤ 8 ∧ Hz (N = T.leB s.m A (min j 8)) ∧ wr = V2) (fun _ x _ => 8 - (intOf x).toNat)
 case atStart => exact ⟨0, 0, rfl, rfl, by omega, Hz.mk rfl, rfl⟩
 case round =>
   obtain ⟨j, N, rfl, rfl, hj, hN, rfl⟩ := hrel
   by_cases hq : j < 8
   · have hq1 : (j : Int) < 8 := by omega
     have hw1 : IntKind.u64.wrap ((j : Int) + 1) = (j : Int) + 1 := by rw [IntKind.wrap_u64]; omega
     have h8 : j < 8 := by omega
     have h81 : (j : Int) < 8 := by omega
     have hwa : IntKind.u64.wrap ((A : Int) + (j : Int)) = (A : Int) + (j : Int) := by rw [IntKind.wrap_u64]; omega
     have hw8 : IntKind.u64.wrap (8 * (j : Int)) = 8 * (j : Int) := by rw [IntKind.wrap_u64]; omega
     have hix : (A : Int) + (j : Int) < 65536 := by omega
     have cm := (hmem (A + j) (by omega)).1
     have hnx := Hz.mk (le_next s.m A j h8)
     rw [← hN.out] at hnx
     go_wp2_with fail
     refine And.intro (Exists.intro (j + 1) (Exists.intro (T.leB s.m A (min (j + 1) 8)) ⟨rfl, congrArg (Value.int IntKind.u64) hnx.out, by omega, Hz.mk rfl, trivial⟩)) ?_
     simp [intOf]
     omega
   · have hq1 : ¬ (j : Int) < 8 := by omega
     obtain rfl : j = 8 := by omega
     have hN2 : Hz (N = T.leB s.m A 8) := Hz.mk hN.out
     clear hN hmem c23 hgm
     go_upto_region 17 with fail
     have gd : Gr wr wr.drew := (Gr.refl wr).drew
     replace hB := Hz.mk (hB.out.trans (gd.below.mono h.out.le))
     have hd := Hz.mk (h.out.gr gd.below)
     clear gd h
     have rr : ∃ y, wr.drew.cell? ⟨b, 6 + ia, none⟩ = some y := by obtain ⟨q, hq⟩ := hd.out.box; exact ⟨_, hq.at_ (6 + ia) (by omega)⟩
     obtain ⟨y0, rr⟩ := rr
     have rf : wr.drew.frozen? ⟨b, 6 + ia, none⟩ = false := by obtain ⟨q, hq⟩ := hd.out.box; exact hq.fr _
     have hlt : b < wr.drew.heap.size := by obtain ⟨q, hq⟩ := hd.out.box; exact hq.lt
     have hrg := Hz.mk (hd.out.reg ia ha (N : Int))
     refine wp_region_held_drew (S := (fun W => W.cell? ⟨kb, 0, none⟩ = some (.int .u8 61) ∧ W.cell? ⟨kb, 1, none⟩ = some (.int .i64 ia) ∧ W.cell? ⟨kb, 2, none⟩ = some (.int .i64 ib) ∧ W.cell? ⟨kb, 3, none⟩ = some (.int .i64 ic) ∧ W.cell? ⟨kb, 4, none⟩ = some (.int .u64 imm))) (by kernel_rfl) (KS.out _ (hd.out.there (boxOb kb #[.int .u8 61, .int .i64 ia, .int .i64 ib, .int .i64 ic, .int .u64 imm]) (.head _))) (fun hHeld => ?_)
     generalize wr.drew = V3 at *
     refine xso 0 ?_ rfl ?_ (xso 1 ?_ rfl ?_ (xso 2 ?_ rfl ?_ (xso 3 ?_ rfl ?_ (xso 4 ?_ rfl ?_ (xso 5 ?_ rfl ?_ (xso 6 ?_ rfl ?_ ?_))))))
     iterate 7 (rotate_left; focus ((try simp only [xap]); intro w hSw; (try dsimp only at hSw); go_simp; first | done | with_reducible rfl))
     try simp only [xap]
     refine xrd 7 rfl (fun K hK => ?_)
     go_simp
     refine hK.out _ _ (KS.out _ (hrg.out.1.there (boxOb kb #[.int .u8 61, .int .i64 ia, .int .i64 ib, .int .i64 ic, .int .u64 imm]) (.head _))) (fun hHeld => ?_)
     clear hK K
     try simp only [xap]
     refine xdn ?_ _
     clear hHeld rr rf hlt
     replace hB := Hz.mk (hB.out.trans hrg.out.2)
     have h := Hz.mk hrg.out.1
     clear hrg hd
     generalize World.setCell _ _ _ = V4 at *
     obtain ⟨q, ta, tk, hq, c26, hO2, hap⟩ := h.out.appT ⟨false, (A : Int), 8⟩
     have hlt := hq.lt
     have hleW := h.out.le
     clear hq
     replace hO2 := Hz.mk hO2
     replace hap := Hz.mk hap
     have hxs : ∃ xs, s.tc.flatMap Tc.vals = xs := ⟨_, rfl⟩
     obtain ⟨xs, hxs⟩ := hxs
     rw [hxs] at hO2 hap
     clear hxs
     go_upto_region 18 with fail
     refine wp_region_lit ?_
     iterate 10 (refine wpList_plain rfl (fun K hK => ?_); go_simp; with_reducible refine hK _ _ ?_; clear hK K; (try simp only [xap]))
     have hX : At (V4.alloc (.cells (List.toArray [Value.bool false, .int .u64 (A : Int), .int .u64 8]) 56)) V4.heap.size (List.toArray [Value.bool false, .int .u64 (A : Int), .int .u64 8]) := At.new V4 _ _
     have gX : Gr V4 (V4.alloc (.cells (List.toArray [Value.bool false, .int .u64 (A : Int), .int .u64 8]) 56)) := (Gr.refl V4).alloc _
     generalize V4.alloc (.cells (List.toArray [Value.bool false, .int .u64 (A : Int), .int .u64 8]) 56) = VX at *
     generalize V4.heap.size = kX at hX ⊢
     refine wpList_plain rfl (fun K hK => ?_)
     refine wp_append_z _ _ 53 56 (.agg #[.bool false, .int .u64 0, .int .u64 0]) 3 24 rfl Tryz.underlying53 (by kernel_rfl) (by kernel_rfl) (by decide) (by decide) B (.slice ta s.tc.length tk) s.tc.length xs [Value.bool false, .int .u64 (A : Int), .int .u64 8] (by rfl) (hO2.out VX gX.below) kX (by rfl) hX rfl (by simp [Value.oneCell']) htl (Nat.le_trans hleW gX.below.size) ?_
     intro g cap W2 k1 k2 k3
     obtain ⟨hq2, hA2, hM, hBe⟩ := hap.out VX W2 g cap gX.below k1 k2 k3
     have cu : W2.cell? ⟨b, 26, none⟩ = some _ := hq2.at_ 26 (by omega)
     have fu := hq2.fr 26
     have hlt2 := hq2.lt
     replace hM := Hz.mk hM
     clear hap hO2 k1 k2 k3 hq2 hA2 hX gX
     with_reducible refine hK _ _ ?_
     clear hK K
     try simp only [xap]
     iterate 2 (refine wpList_plain rfl (fun K hK => ?_); go_simp; with_reducible refine hK _ _ ?_; clear hK K; (try simp only [xap]))
     refine wpList_plain rfl (fun K hK => ?_)
     go_simp
     with_reducible refine hK _ _ ?_
     clear hK K
     try simp only [Act.put]
     replace hB := Hz.mk (hB.out.trans hBe)
     clear hBe h cu fu hlt2 hlt c26 hleW
     generalize World.setCell _ _ _ = V5 at *
     have h := hM
     clear hM
     have c5 : V5.cell? ⟨b, 5, none⟩ = some (.int .i64 s.p) := by obtain ⟨q, hq⟩ := h.out.box; exact hq.at_ 5 (by omega)
     have f5 : V5.frozen? ⟨b, 5, none⟩ = false := by obtain ⟨q, hq⟩ := h.out.box; exact hq.fr 5
     have hlt : b < V5.heap.size := by obtain ⟨q, hq⟩ := h.out.box; exact hq.lt
     have hw5 : wrap64 ((s.p : Int) + 1) = (s.p : Int) + 1 := by unfold wrap64; omega
     have hpc := Hz.mk h.out.pc
     go_wp2_with fail
     first | go_end0 | ((try simp only [Exit.inBlock, Exit.then]); refine bodyPost_ret (results_none rfl _ _ _) rfl ?_)
     rw [← hN2.out]
     refine ⟨rfl, hpc.out.1.drop, hB.out.trans hpc.out.2⟩
theorem dml64 (B : Nat) (W0 : World) (b : Nat) (c : Dc) (P : Pr) (s : Fm) (og op : Nat) (l : List Ob) (ia ib ic : Nat) (imm : Int) (h : DIo B W0 b c P s og op l) (hb : ib < 16) (A : Nat) (hA : IntKind.u64.wrap (s.r ib + imm) = (A : Int)) (ha : ia < 16) (hf : A ≤ 65536 - 16) (htl : s.tc.length ≤ 1000000) (hp : s.p ≤ 1000000) :
   Calls Tryz.prog 55 #[.pointer (some ⟨b, 0, none⟩), .agg #[.int .u8 64, .int .i64 ia, .int .i64 ib, .int .i64 ic, .int .u64 imm]] W0 fun x w' => x = .returned (.tuple #[]) ∧ DIo B w' b c P ({ s with r := updR s.r ia (T.leB s.m A 8 : Nat), tc := s.tc ++ [⟨false, (A : Int), 16⟩], p := s.p + 1 }) og op l ∧ Below B W0 w' := by
 have h2 := Hz.mk (h.new #[.int .u8 64, .int .i64 ia, .int .i64 ib, .int .i64 ic, .int .u64 imm] 42)
 clear h
 go_enter Tryz.func55, Tryz.ntmps55
 go_upto_region 1 with fail
 refine wp_world (fun W => DIo B W b c P s og op (boxOb W0.heap.size #[.int .u8 64, .int .i64 ia, .int .i64 ib, .int .i64 ic, .int .u64 imm] :: l) ∧ Below B W0 W) h2.out ?_
 rintro W ⟨h, hB⟩
 replace h := Hz.mk h
 replace hB := Hz.mk hB
 clear h2
 generalize W0.heap.size = kb at *
 have KS := xk2 64 ia ib ic imm kb
 have k0 : W.cell? ⟨kb, 0, none⟩ = some (.int .u8 64) := (h.out.there (boxOb kb #[.int .u8 64, .int .i64 ia, .int .i64 ib, .int .i64 ic, .int .u64 imm]) (.head _)).2.1 0
 have hbi : (ib : Int) < 16 := by omega
 have hkb : kb < W.heap.size := (h.out.there (boxOb kb #[.int .u8 64, .int .i64 ia, .int .i64 ib, .int .i64 ic, .int .u64 imm]) (.head _)).1
 have hne : ¬ W.heap.size = kb := by omega
 go_upto_region 2 with fail
 refine wp_world (fun X => DIo B X b c P s og op (boxOb kb #[.int .u8 64, .int .i64 ia, .int .i64 ib, .int .i64 ic, .int .u64 imm] :: l) ∧ Below B W0 X) ⟨h.out.gr ((Gr.refl W).alloc _).below, hB.out.trans (((Gr.refl W).alloc _).below.mono h.out.le)⟩ ?_
 clear h hB k0 hkb hne
 rintro V ⟨h, hB⟩
 replace hB := Hz.mk (hB.trans (((Gr.refl V).drew).below.mono h.le))
 replace h := Hz.mk (h.gr ((Gr.refl V).drew).below)
 have k2 : V.drew.cell? ⟨kb, 2, none⟩ = some (.int .i64 ib) := (h.out.there (boxOb kb #[.int .u8 64, .int .i64 ia, .int .i64 ib, .int .i64 ic, .int .u64 imm]) (.head _)).2.1 2
 have k4 : V.drew.cell? ⟨kb, 4, none⟩ = some (.int .u64 imm) := (h.out.there (boxOb kb #[.int .u8 64, .int .i64 ia, .int .i64 ib, .int .i64 ic, .int .u64 imm]) (.head _)).2.1 4
 have kr : V.drew.cell? ⟨b, 6 + ib, none⟩ = some (.int .u64 (s.r ib)) := h.out.hand.2.2 ib _ (regs_at s.r ib hb)
 refine wp_region_held_drew (S := (fun X => (X.cell? ⟨kb, 2, none⟩ = some (.int .i64 ib)) ∧ X.cell? ⟨kb, 4, none⟩ = some (.int .u64 imm) ∧ X.cell? ⟨b, 6 + ib, none⟩ = some (.int .u64 (s.r ib)))) (by kernel_rfl) (⟨k2, k4, kr⟩) (fun hHeld => ?_)
 refine xso 0 ?_ rfl ?_ (xso 1 ?_ rfl ?_ (xso 2 ?_ rfl ?_ (xso 3 ?_ rfl ?_ (xso 4 ?_ rfl ?_ (xso 5 ?_ rfl ?_ (xso 6 ?_ rfl ?_ (xso 7 ?_ rfl ?_ (xso 8 ?_ rfl ?_ ?_))))))))
 iterate 9 (rotate_left; focus ((try simp only [xap]); intro w hSw; (try dsimp only at hSw); go_simp; first | done | with_reducible rfl))
 try simp only [xap]
 refine xtk 9 (v := .int .u64 (A : Int)) rfl (Or.inl ⟨by rfl, ?_⟩) ?_
 · intro w hSw; (try dsimp only at hSw); go_simp; first | done | (rw [hA])
 try simp only [xap]
 refine xso 10 ?_ rfl ?_ ?_
 rotate_left
 · intro w hSw; (try dsimp only at hSw); go_simp; first | done | with_reducible rfl
 try simp only [xap]
 refine xdn ?_ _
 clear hHeld k2 k4 kr
 generalize V.drew = V1 at *
 have h1 : ¬ (65536 : Int) ≤ (A : Int) := by omega
 have hw : IntKind.u64.wrap (65536 - (A : Int)) = 65536 - (A : Int) := by rw [IntKind.wrap_u64]; omega
 have h2 : ¬ 65536 - (A : Int) < 16 := by omega
 have k0 : V1.cell? ⟨kb, 0, none⟩ = some (.int .u8 64) := (h.out.there (boxOb kb #[.int .u8 64, .int .i64 ia, .int .i64 ib, .int .i64 ic, .int .u64 imm]) (.head _)).2.1 0
 have hai : (ia : Int) < 16 := by omega
 go_upto_region 7 with fail
 clear k0 h1 hw h2
 have k1 : V1.drew.cell? ⟨kb, 1, none⟩ = some (.int .i64 ia) := (h.out.there (boxOb kb #[.int .u8 64, .int .i64 ia, .int .i64 ib, .int .i64 ic, .int .u64 imm]) (.head _)).2.1 1
 have kr : V1.drew.cell? ⟨b, 6 + ia, none⟩ = some (.int .u64 (s.r ia)) := h.out.hand.2.2 ia _ (regs_at s.r ia ha)
 refine wp_region_held_drew (S := (fun X => (X.cell? ⟨kb, 1, none⟩ = some (.int .i64 ia)) ∧ X.cell? ⟨b, 6 + ia, none⟩ = some (.int .u64 (s.r ia)))) (by kernel_rfl) (⟨k1, kr⟩) (fun hHeld => ?_)
 refine xso 0 ?_ rfl ?_ (xso 1 ?_ rfl ?_ (xso 2 ?_ rfl ?_ (xso 3 ?_ rfl ?_ (xso 4 ?_ rfl ?_ (xso 5 ?_ rfl ?_ (xso 6 ?_ rfl ?_ (xso 7 ?_ rfl ?_ ?_)))))))
 iterate 8 (rotate_left; focus ((try simp only [xap]); intro w hSw; (try dsimp only at hSw); go_simp; first | done | with_reducible rfl))
 try simp only [xap]
 refine xdn ?_ _
 clear hHeld k1 kr
 replace hB := Hz.mk (hB.out.trans (((Gr.refl V1).drew).below.mono h.out.le))
 replace h := Hz.mk (h.out.gr ((Gr.refl V1).drew).below)
 generalize V1.drew = V2 at *
 obtain ⟨gm, km, c23, hgm, hmem, _⟩ := h.out.mem
 go_upto_region 9 with fail
 go_loopw [7, 9] (fun y x wr => ∃ j N : Nat, x = .int .u64 j ∧ y = .int .u64 N ∧ j ≤ 16 ∧ Hz (N = T.leB s.m A (min j 8)) ∧ wr = V2) (fun _ x _ => 16 - (intOf x).toNat)
 case atStart => exact ⟨0, 0, rfl, rfl, by omega, Hz.mk rfl, rfl⟩
 case round =>
   obtain ⟨j, N, rfl, rfl, hj, hN, rfl⟩ := hrel
   by_cases hq : j < 16
   · have hq1 : (j : Int) < 16 := by omega
     have hw1 : IntKind.u64.wrap ((j : Int) + 1) = (j : Int) + 1 := by rw [IntKind.wrap_u64]; omega
     by_cases h8 : j < 8
     · have h81 : (j : Int) < 8 := by omega
       have hwa : IntKind.u64.wrap ((A : Int) + (j : Int)) = (A : Int) + (j : Int) := by rw [IntKind.wrap_u64]; omega
       have hw8 : IntKind.u64.wrap (8 * (j : Int)) = 8 * (j : Int) := by rw [IntKind.wrap_u64]; omega
       have hix : (A : Int) + (j : Int) < 65536 := by omega
       have cm := (hmem (A + j) (by omega)).1
       have hnx := Hz.mk (le_next s.m A j h8)
       rw [← hN.out] at hnx
       go_wp2_with fail
       refine And.intro (Exists.intro (j + 1) (Exists.intro (T.leB s.m A (min (j + 1) 8)) ⟨rfl, congrArg (Value.int IntKind.u64) hnx.out, by omega, Hz.mk rfl, trivial⟩)) ?_
       simp [intOf]
       omega
     · have h81 : ¬ (j : Int) < 8 := by omega
       go_wp2_with fail
       refine And.intro (Exists.intro (j + 1) (Exists.intro N ⟨rfl, rfl, by omega, Hz.mk (by rw [show min (j + 1) 8 = min j 8 by omega]; exact hN.out), trivial⟩)) ?_
       simp [intOf]
       omega
   · have hq1 : ¬ (j : Int) < 16 := by omega
     obtain rfl : j = 16 := by omega
     have hN2 : Hz (N = T.leB s.m A 8) := Hz.mk hN.out
     clear hN hmem c23 hgm
     go_upto_region 17 with fail
     have gd : Gr wr wr.drew := (Gr.refl wr).drew
     replace hB := Hz.mk (hB.out.trans (gd.below.mono h.out.le))
     have hd := Hz.mk (h.out.gr gd.below)
     clear gd h
     have rr : ∃ y, wr.drew.cell? ⟨b, 6 + ia, none⟩ = some y := by obtain ⟨q, hq⟩ := hd.out.box; exact ⟨_, hq.at_ (6 + ia) (by omega)⟩
     obtain ⟨y0, rr⟩ := rr
     have rf : wr.drew.frozen? ⟨b, 6 + ia, none⟩ = false := by obtain ⟨q, hq⟩ := hd.out.box; exact hq.fr _
     have hlt : b < wr.drew.heap.size := by obtain ⟨q, hq⟩ := hd.out.box; exact hq.lt
     have hrg := Hz.mk (hd.out.reg ia ha (N : Int))
     refine wp_region_held_drew (S := (fun W => W.cell? ⟨kb, 0, none⟩ = some (.int .u8 64) ∧ W.cell? ⟨kb, 1, none⟩ = some (.int .i64 ia) ∧ W.cell? ⟨kb, 2, none⟩ = some (.int .i64 ib) ∧ W.cell? ⟨kb, 3, none⟩ = some (.int .i64 ic) ∧ W.cell? ⟨kb, 4, none⟩ = some (.int .u64 imm))) (by kernel_rfl) (KS.out _ (hd.out.there (boxOb kb #[.int .u8 64, .int .i64 ia, .int .i64 ib, .int .i64 ic, .int .u64 imm]) (.head _))) (fun hHeld => ?_)
     generalize wr.drew = V3 at *
     refine xso 0 ?_ rfl ?_ (xso 1 ?_ rfl ?_ (xso 2 ?_ rfl ?_ (xso 3 ?_ rfl ?_ (xso 4 ?_ rfl ?_ (xso 5 ?_ rfl ?_ (xso 6 ?_ rfl ?_ ?_))))))
     iterate 7 (rotate_left; focus ((try simp only [xap]); intro w hSw; (try dsimp only at hSw); go_simp; first | done | with_reducible rfl))
     try simp only [xap]
     refine xrd 7 rfl (fun K hK => ?_)
     go_simp
     refine hK.out _ _ (KS.out _ (hrg.out.1.there (boxOb kb #[.int .u8 64, .int .i64 ia, .int .i64 ib, .int .i64 ic, .int .u64 imm]) (.head _))) (fun hHeld => ?_)
     clear hK K
     try simp only [xap]
     refine xdn ?_ _
     clear hHeld rr rf hlt
     replace hB := Hz.mk (hB.out.trans hrg.out.2)
     have h := Hz.mk hrg.out.1
     clear hrg hd
     generalize World.setCell _ _ _ = V4 at *
     obtain ⟨q, ta, tk, hq, c26, hO2, hap⟩ := h.out.appT ⟨false, (A : Int), 16⟩
     have hlt := hq.lt
     have hleW := h.out.le
     clear hq
     replace hO2 := Hz.mk hO2
     replace hap := Hz.mk hap
     have hxs : ∃ xs, s.tc.flatMap Tc.vals = xs := ⟨_, rfl⟩
     obtain ⟨xs, hxs⟩ := hxs
     rw [hxs] at hO2 hap
     clear hxs
     go_upto_region 18 with fail
     refine wp_region_lit ?_
     iterate 10 (refine wpList_plain rfl (fun K hK => ?_); go_simp; with_reducible refine hK _ _ ?_; clear hK K; (try simp only [xap]))
     have hX : At (V4.alloc (.cells (List.toArray [Value.bool false, .int .u64 (A : Int), .int .u64 16]) 56)) V4.heap.size (List.toArray [Value.bool false, .int .u64 (A : Int), .int .u64 16]) := At.new V4 _ _
     have gX : Gr V4 (V4.alloc (.cells (List.toArray [Value.bool false, .int .u64 (A : Int), .int .u64 16]) 56)) := (Gr.refl V4).alloc _
     generalize V4.alloc (.cells (List.toArray [Value.bool false, .int .u64 (A : Int), .int .u64 16]) 56) = VX at *
     generalize V4.heap.size = kX at hX ⊢
     refine wpList_plain rfl (fun K hK => ?_)
     refine wp_append_z _ _ 53 56 (.agg #[.bool false, .int .u64 0, .int .u64 0]) 3 24 rfl Tryz.underlying53 (by kernel_rfl) (by kernel_rfl) (by decide) (by decide) B (.slice ta s.tc.length tk) s.tc.length xs [Value.bool false, .int .u64 (A : Int), .int .u64 16] (by rfl) (hO2.out VX gX.below) kX (by rfl) hX rfl (by simp [Value.oneCell']) htl (Nat.le_trans hleW gX.below.size) ?_
     intro g cap W2 k1 k2 k3
     obtain ⟨hq2, hA2, hM, hBe⟩ := hap.out VX W2 g cap gX.below k1 k2 k3
     have cu : W2.cell? ⟨b, 26, none⟩ = some _ := hq2.at_ 26 (by omega)
     have fu := hq2.fr 26
     have hlt2 := hq2.lt
     replace hM := Hz.mk hM
     clear hap hO2 k1 k2 k3 hq2 hA2 hX gX
     with_reducible refine hK _ _ ?_
     clear hK K
     try simp only [xap]
     iterate 2 (refine wpList_plain rfl (fun K hK => ?_); go_simp; with_reducible refine hK _ _ ?_; clear hK K; (try simp only [xap]))
     refine wpList_plain rfl (fun K hK => ?_)
     go_simp
     with_reducible refine hK _ _ ?_
     clear hK K
     try simp only [Act.put]
     replace hB := Hz.mk (hB.out.trans hBe)
     clear hBe h cu fu hlt2 hlt c26 hleW
     generalize World.setCell _ _ _ = V5 at *
     have h := hM
     clear hM
     have c5 : V5.cell? ⟨b, 5, none⟩ = some (.int .i64 s.p) := by obtain ⟨q, hq⟩ := h.out.box; exact hq.at_ 5 (by omega)
     have f5 : V5.frozen? ⟨b, 5, none⟩ = false := by obtain ⟨q, hq⟩ := h.out.box; exact hq.fr 5
     have hlt : b < V5.heap.size := by obtain ⟨q, hq⟩ := h.out.box; exact hq.lt
     have hw5 : wrap64 ((s.p : Int) + 1) = (s.p : Int) + 1 := by unfold wrap64; omega
     have hpc := Hz.mk h.out.pc
     go_wp2_with fail
     first | go_end0 | ((try simp only [Exit.inBlock, Exit.then]); refine bodyPost_ret (results_none rfl _ _ _) rfl ?_)
     rw [← hN2.out]
     refine ⟨rfl, hpc.out.1.drop, hB.out.trans hpc.out.2⟩
end Z
end Go.Proofs.YthfphgjjieddjaaGreat


namespace Go.Proofs.YthfphgjjieddjaaGreat
set_option maxRecDepth 100000
set_option maxHeartbeats 40000000
namespace Z
open Go.RowKit
open T (Sep Ob Kp Mf FlIn boxOb)

theorem by_next (N : Nat) : ((UInt8.ofNat (N % 256)).toNat : Int) = (N : Int) % 256 := by
 rw [UInt8.toNat_ofNat']
 omega
theorem qu_next (N : Nat) (h : N < 18446744073709551616) : IntKind.u64.wrap ((N : Int) / 256) = ((N / 256 : Nat) : Int) := by
 rw [IntKind.wrap_u64]
 omega
theorem dms62 (B : Nat) (W0 : World) (b : Nat) (c : Dc) (P : Pr) (s : Fm) (og op : Nat) (l : List Ob) (ia ib ic : Nat) (imm : Int) (h : DIo B W0 b c P s og op l) (hb : ib < 16) (A : Nat) (hA : IntKind.u64.wrap (s.r ib + imm) = (A : Int)) (v0 : Nat) (hv : s.r ia = (v0 : Int)) (hv64 : v0 < 18446744073709551616) (ha : ia < 16) (hf : A ≤ 65536 - 1) (htl : s.tc.length ≤ 1000000) (hp : s.p ≤ 1000000) :
   Calls Tryz.prog 55 #[.pointer (some ⟨b, 0, none⟩), .agg #[.int .u8 62, .int .i64 ia, .int .i64 ib, .int .i64 ic, .int .u64 imm]] W0 fun x w' => x = .returned (.tuple #[]) ∧ DIo B w' b c P ({ s with m := T.putB s.m A v0 1, tc := s.tc ++ [⟨true, (A : Int), 1⟩], p := s.p + 1 }) og op l ∧ Below B W0 w' := by
 replace hv := Hz.mk hv
 have h2 := Hz.mk (h.new #[.int .u8 62, .int .i64 ia, .int .i64 ib, .int .i64 ic, .int .u64 imm] 42)
 clear h
 go_enter Tryz.func55, Tryz.ntmps55
 go_upto_region 1 with fail
 refine wp_world (fun W => DIo B W b c P s og op (boxOb W0.heap.size #[.int .u8 62, .int .i64 ia, .int .i64 ib, .int .i64 ic, .int .u64 imm] :: l) ∧ Below B W0 W) h2.out ?_
 rintro W ⟨h, hB⟩
 replace h := Hz.mk h
 replace hB := Hz.mk hB
 clear h2
 generalize W0.heap.size = kb at *
 have KS := xk2 62 ia ib ic imm kb
 have k0 : W.cell? ⟨kb, 0, none⟩ = some (.int .u8 62) := (h.out.there (boxOb kb #[.int .u8 62, .int .i64 ia, .int .i64 ib, .int .i64 ic, .int .u64 imm]) (.head _)).2.1 0
 have hbi : (ib : Int) < 16 := by omega
 have hkb : kb < W.heap.size := (h.out.there (boxOb kb #[.int .u8 62, .int .i64 ia, .int .i64 ib, .int .i64 ic, .int .u64 imm]) (.head _)).1
 have hne : ¬ W.heap.size = kb := by omega
 go_upto_region 2 with fail
 refine wp_world (fun X => DIo B X b c P s og op (boxOb kb #[.int .u8 62, .int .i64 ia, .int .i64 ib, .int .i64 ic, .int .u64 imm] :: l) ∧ Below B W0 X) ⟨h.out.gr ((Gr.refl W).alloc _).below, hB.out.trans (((Gr.refl W).alloc _).below.mono h.out.le)⟩ ?_
 clear h hB k0 hkb hne
 rintro V ⟨h, hB⟩
 replace hB := Hz.mk (hB.trans (((Gr.refl V).drew).below.mono h.le))
 replace h := Hz.mk (h.gr ((Gr.refl V).drew).below)
 have k2 : V.drew.cell? ⟨kb, 2, none⟩ = some (.int .i64 ib) := (h.out.there (boxOb kb #[.int .u8 62, .int .i64 ia, .int .i64 ib, .int .i64 ic, .int .u64 imm]) (.head _)).2.1 2
 have k4 : V.drew.cell? ⟨kb, 4, none⟩ = some (.int .u64 imm) := (h.out.there (boxOb kb #[.int .u8 62, .int .i64 ia, .int .i64 ib, .int .i64 ic, .int .u64 imm]) (.head _)).2.1 4
 have kr : V.drew.cell? ⟨b, 6 + ib, none⟩ = some (.int .u64 (s.r ib)) := h.out.hand.2.2 ib _ (regs_at s.r ib hb)
 refine wp_region_held_drew (S := (fun X => (X.cell? ⟨kb, 2, none⟩ = some (.int .i64 ib)) ∧ X.cell? ⟨kb, 4, none⟩ = some (.int .u64 imm) ∧ X.cell? ⟨b, 6 + ib, none⟩ = some (.int .u64 (s.r ib)))) (by kernel_rfl) (⟨k2, k4, kr⟩) (fun hHeld => ?_)
 refine xso 0 ?_ rfl ?_ (xso 1 ?_ rfl ?_ (xso 2 ?_ rfl ?_ (xso 3 ?_ rfl ?_ (xso 4 ?_ rfl ?_ (xso 5 ?_ rfl ?_ (xso 6 ?_ rfl ?_ (xso 7 ?_ rfl ?_ (xso 8 ?_ rfl ?_ ?_))))))))
 iterate 9 (rotate_left; focus ((try simp only [xap]); intro w hSw; (try dsimp only at hSw); go_simp; first | done | with_reducible rfl))
 try simp only [xap]
 refine xtk 9 (v := .int .u64 (A : Int)) rfl (Or.inl ⟨by rfl, ?_⟩) ?_
 · intro w hSw; (try dsimp only at hSw); go_simp; first | done | (rw [hA])
 try simp only [xap]
 refine xso 10 ?_ rfl ?_ ?_
 rotate_left
 · intro w hSw; (try dsimp only at hSw); go_simp; first | done | with_reducible rfl
 try simp only [xap]
 refine xdn ?_ _
 clear hHeld k2 k4 kr
 generalize V.drew = V1 at *
 have h1 : ¬ (65536 : Int) ≤ (A : Int) := by omega
 have hw : IntKind.u64.wrap (65536 - (A : Int)) = 65536 - (A : Int) := by rw [IntKind.wrap_u64]; omega
 have h2 : ¬ 65536 - (A : Int) < 1 := by omega
 have k0 : V1.cell? ⟨kb, 0, none⟩ = some (.int .u8 62) := (h.out.there (boxOb kb #[.int .u8 62, .int .i64 ia, .int .i64 ib, .int .i64 ic, .int .u64 imm]) (.head _)).2.1 0
 have hai : (ia : Int) < 16 := by omega
 go_upto_region 7 with fail
 clear k0 h1 hw h2
 have k1 : V1.drew.cell? ⟨kb, 1, none⟩ = some (.int .i64 ia) := (h.out.there (boxOb kb #[.int .u8 62, .int .i64 ia, .int .i64 ib, .int .i64 ic, .int .u64 imm]) (.head _)).2.1 1
 have kr : V1.drew.cell? ⟨b, 6 + ia, none⟩ = some (.int .u64 (v0 : Int)) := by rw [← hv.out]; exact h.out.hand.2.2 ia _ (regs_at s.r ia ha)
 refine wp_region_held_drew (S := (fun X => (X.cell? ⟨kb, 1, none⟩ = some (.int .i64 ia)) ∧ X.cell? ⟨b, 6 + ia, none⟩ = some (.int .u64 (v0 : Int)))) (by kernel_rfl) (⟨k1, kr⟩) (fun hHeld => ?_)
 refine xso 0 ?_ rfl ?_ (xso 1 ?_ rfl ?_ (xso 2 ?_ rfl ?_ (xso 3 ?_ rfl ?_ (xso 4 ?_ rfl ?_ (xso 5 ?_ rfl ?_ (xso 6 ?_ rfl ?_ (xso 7 ?_ rfl ?_ ?_)))))))
 iterate 8 (rotate_left; focus ((try simp only [xap]); intro w hSw; (try dsimp only at hSw); go_simp; first | done | with_reducible rfl))
 try simp only [xap]
 refine xdn ?_ _
 clear hHeld k1 kr
 replace hB := Hz.mk (hB.out.trans (((Gr.refl V1).drew).below.mono h.out.le))
 replace h := Hz.mk (h.out.gr ((Gr.refl V1).drew).below)
 generalize V1.drew = V2 at *
 have h0 : Hz (DIo B V2 b c P { s with m := T.putB s.m A v0 0 } og op (boxOb kb #[.int .u8 62, .int .i64 ia, .int .i64 ib, .int .i64 ic, .int .u64 imm] :: l)) := h
 clear h
 go_upto_region 9 with fail
 go_loopw [8, 9] (fun y x wr => ∃ j N : Nat, x = .int .u64 j ∧ y = .int .u64 N ∧ j ≤ 1 ∧ Hz (N = v0 / 2 ^ (8 * j)) ∧ Hz (DIo B wr b c P { s with m := T.putB s.m A v0 j } og op (boxOb kb #[.int .u8 62, .int .i64 ia, .int .i64 ib, .int .i64 ic, .int .u64 imm] :: l)) ∧ Hz (Below B W0 wr)) (fun _ x _ => 1 - (intOf x).toNat)
 case atStart => exact ⟨0, v0, rfl, rfl, by omega, Hz.mk (by simp), h0, hB⟩
 case round =>
   clear h0 hB
   obtain ⟨j, N, rfl, rfl, hj, hN, h, hB⟩ := hrel
   by_cases hq : j < 1
   · have hq1 : (j : Int) < 1 := by omega
     have hw1 : IntKind.u64.wrap ((j : Int) + 1) = (j : Int) + 1 := by rw [IntKind.wrap_u64]; omega
     have hwa : IntKind.u64.wrap ((A : Int) + (j : Int)) = (A : Int) + (j : Int) := by rw [IntKind.wrap_u64]; omega
     have hix : (A : Int) + (j : Int) < 65536 := by omega
     obtain ⟨gm, km, c23, hgm, hmem, hset⟩ := h.out.mem
     have cm := (hmem (A + j) (by omega)).1
     have fm := (hmem (A + j) (by omega)).2
     have hqo := Hz.mk (qu_next N (by rw [hN.out]; exact Nat.lt_of_le_of_lt (Nat.div_le_self _ _) hv64))
     have hst := hset (A + j) (by omega) (UInt8.ofNat (N % 256))
     rw [by_next N] at hst
     have hm1 : Hz (T.upd (T.putB s.m A v0 j) (A + j) (UInt8.ofNat (N % 256)) = T.putB s.m A v0 (j + 1)) := Hz.mk (by rw [hN.out]; rfl)
     rw [hm1.out] at hst
     replace hst := Hz.mk hst
     clear hmem hset
     go_wp2_with fail
     refine And.intro (Exists.intro (j + 1) (Exists.intro (N / 256) ⟨rfl, congrArg (Value.int IntKind.u64) hqo.out, by omega, Hz.mk (by rw [hN.out, Nat.div_div_eq_div_mul, show (256 : Nat) = 2 ^ 8 from rfl, ← Nat.pow_add, show 8 * j + 8 = 8 * (j + 1) by omega]), Hz.mk hst.out.1, Hz.mk (hB.out.trans hst.out.2)⟩)) ?_
     simp [intOf]
     omega
   · have hq1 : ¬ (j : Int) < 1 := by omega
     obtain rfl : j = 1 := by omega
     clear hN
     obtain ⟨m9, hm9⟩ : ∃ m, T.putB s.m A v0 1 = m := ⟨_, rfl⟩
     rw [hm9] at h
     replace hm9 := Hz.mk hm9
     go_upto_region 18 with fail
     obtain ⟨q, ta, tk, hq, c26, hO2, hap⟩ := h.out.appT ⟨true, (A : Int), 1⟩
     have hlt := hq.lt
     have hleW := h.out.le
     clear hq
     replace hO2 := Hz.mk hO2
     replace hap := Hz.mk hap
     have hxs : ∃ xs, s.tc.flatMap Tc.vals = xs := ⟨_, rfl⟩
     obtain ⟨xs, hxs⟩ := hxs
     rw [hxs] at hO2 hap
     clear hxs
     refine wp_region_lit ?_
     iterate 10 (refine wpList_plain rfl (fun K hK => ?_); go_simp; with_reducible refine hK _ _ ?_; clear hK K; (try simp only [xap]))
     have hX : At (wr.alloc (.cells (List.toArray [Value.bool true, .int .u64 (A : Int), .int .u64 1]) 56)) wr.heap.size (List.toArray [Value.bool true, .int .u64 (A : Int), .int .u64 1]) := At.new wr _ _
     have gX : Gr wr (wr.alloc (.cells (List.toArray [Value.bool true, .int .u64 (A : Int), .int .u64 1]) 56)) := (Gr.refl wr).alloc _
     generalize wr.alloc (.cells (List.toArray [Value.bool true, .int .u64 (A : Int), .int .u64 1]) 56) = VX at *
     generalize wr.heap.size = kX at hX ⊢
     refine wpList_plain rfl (fun K hK => ?_)
     refine wp_append_z _ _ 53 56 (.agg #[.bool false, .int .u64 0, .int .u64 0]) 3 24 rfl Tryz.underlying53 (by kernel_rfl) (by kernel_rfl) (by decide) (by decide) B (.slice ta s.tc.length tk) s.tc.length xs [Value.bool true, .int .u64 (A : Int), .int .u64 1] (by rfl) (hO2.out VX gX.below) kX (by rfl) hX rfl (by simp [Value.oneCell']) htl (Nat.le_trans hleW gX.below.size) ?_
     intro g cap W2 k1 k2 k3
     obtain ⟨hq2, hA2, hM, hBe⟩ := hap.out VX W2 g cap gX.below k1 k2 k3
     have cu : W2.cell? ⟨b, 26, none⟩ = some _ := hq2.at_ 26 (by omega)
     have fu := hq2.fr 26
     have hlt2 := hq2.lt
     replace hM := Hz.mk hM
     clear hap hO2 k1 k2 k3 hq2 hA2 hX gX
     with_reducible refine hK _ _ ?_
     clear hK K
     try simp only [xap]
     iterate 2 (refine wpList_plain rfl (fun K hK => ?_); go_simp; with_reducible refine hK _ _ ?_; clear hK K; (try simp only [xap]))
     refine wpList_plain rfl (fun K hK => ?_)
     go_simp
     with_reducible refine hK _ _ ?_
     clear hK K
     try simp only [Act.put]
     replace hB := Hz.mk (hB.out.trans hBe)
     clear hBe h cu fu hlt2 hlt c26 hleW
     generalize World.setCell _ _ _ = V5 at *
     have h := hM
     clear hM
     have c5 : V5.cell? ⟨b, 5, none⟩ = some (.int .i64 s.p) := by obtain ⟨q, hq⟩ := h.out.box; exact hq.at_ 5 (by omega)
     have f5 : V5.frozen? ⟨b, 5, none⟩ = false := by obtain ⟨q, hq⟩ := h.out.box; exact hq.fr 5
     have hlt : b < V5.heap.size := by obtain ⟨q, hq⟩ := h.out.box; exact hq.lt
     have hw5 : wrap64 ((s.p : Int) + 1) = (s.p : Int) + 1 := by unfold wrap64; omega
     have hpc := Hz.mk h.out.pc
     go_wp2_with fail
     first | go_end0 | ((try simp only [Exit.inBlock, Exit.then]); refine bodyPost_ret (results_none rfl _ _ _) rfl ?_)
     rw [hm9.out]
     refine ⟨rfl, hpc.out.1.drop, hB.out.trans hpc.out.2⟩
theorem dms63 (B : Nat) (W0 : World) (b : Nat) (c : Dc) (P : Pr) (s : Fm) (og op : Nat) (l : List Ob) (ia ib ic : Nat) (imm : Int) (h : DIo B W0 b c P s og op l) (hb : ib < 16) (A : Nat) (hA : IntKind.u64.wrap (s.r ib + imm) = (A : Int)) (v0 : Nat) (hv : s.r ia = (v0 : Int)) (hv64 : v0 < 18446744073709551616) (ha : ia < 16) (hf : A ≤ 65536 - 8) (htl : s.tc.length ≤ 1000000) (hp : s.p ≤ 1000000) :
   Calls Tryz.prog 55 #[.pointer (some ⟨b, 0, none⟩), .agg #[.int .u8 63, .int .i64 ia, .int .i64 ib, .int .i64 ic, .int .u64 imm]] W0 fun x w' => x = .returned (.tuple #[]) ∧ DIo B w' b c P ({ s with m := T.putB s.m A v0 8, tc := s.tc ++ [⟨true, (A : Int), 8⟩], p := s.p + 1 }) og op l ∧ Below B W0 w' := by
 replace hv := Hz.mk hv
 have h2 := Hz.mk (h.new #[.int .u8 63, .int .i64 ia, .int .i64 ib, .int .i64 ic, .int .u64 imm] 42)
 clear h
 go_enter Tryz.func55, Tryz.ntmps55
 go_upto_region 1 with fail
 refine wp_world (fun W => DIo B W b c P s og op (boxOb W0.heap.size #[.int .u8 63, .int .i64 ia, .int .i64 ib, .int .i64 ic, .int .u64 imm] :: l) ∧ Below B W0 W) h2.out ?_
 rintro W ⟨h, hB⟩
 replace h := Hz.mk h
 replace hB := Hz.mk hB
 clear h2
 generalize W0.heap.size = kb at *
 have KS := xk2 63 ia ib ic imm kb
 have k0 : W.cell? ⟨kb, 0, none⟩ = some (.int .u8 63) := (h.out.there (boxOb kb #[.int .u8 63, .int .i64 ia, .int .i64 ib, .int .i64 ic, .int .u64 imm]) (.head _)).2.1 0
 have hbi : (ib : Int) < 16 := by omega
 have hkb : kb < W.heap.size := (h.out.there (boxOb kb #[.int .u8 63, .int .i64 ia, .int .i64 ib, .int .i64 ic, .int .u64 imm]) (.head _)).1
 have hne : ¬ W.heap.size = kb := by omega
 go_upto_region 2 with fail
 refine wp_world (fun X => DIo B X b c P s og op (boxOb kb #[.int .u8 63, .int .i64 ia, .int .i64 ib, .int .i64 ic, .int .u64 imm] :: l) ∧ Below B W0 X) ⟨h.out.gr ((Gr.refl W).alloc _).below, hB.out.trans (((Gr.refl W).alloc _).below.mono h.out.le)⟩ ?_
 clear h hB k0 hkb hne
 rintro V ⟨h, hB⟩
 replace hB := Hz.mk (hB.trans (((Gr.refl V).drew).below.mono h.le))
 replace h := Hz.mk (h.gr ((Gr.refl V).drew).below)
 have k2 : V.drew.cell? ⟨kb, 2, none⟩ = some (.int .i64 ib) := (h.out.there (boxOb kb #[.int .u8 63, .int .i64 ia, .int .i64 ib, .int .i64 ic, .int .u64 imm]) (.head _)).2.1 2
 have k4 : V.drew.cell? ⟨kb, 4, none⟩ = some (.int .u64 imm) := (h.out.there (boxOb kb #[.int .u8 63, .int .i64 ia, .int .i64 ib, .int .i64 ic, .int .u64 imm]) (.head _)).2.1 4
 have kr : V.drew.cell? ⟨b, 6 + ib, none⟩ = some (.int .u64 (s.r ib)) := h.out.hand.2.2 ib _ (regs_at s.r ib hb)
 refine wp_region_held_drew (S := (fun X => (X.cell? ⟨kb, 2, none⟩ = some (.int .i64 ib)) ∧ X.cell? ⟨kb, 4, none⟩ = some (.int .u64 imm) ∧ X.cell? ⟨b, 6 + ib, none⟩ = some (.int .u64 (s.r ib)))) (by kernel_rfl) (⟨k2, k4, kr⟩) (fun hHeld => ?_)
 refine xso 0 ?_ rfl ?_ (xso 1 ?_ rfl ?_ (xso 2 ?_ rfl ?_ (xso 3 ?_ rfl ?_ (xso 4 ?_ rfl ?_ (xso 5 ?_ rfl ?_ (xso 6 ?_ rfl ?_ (xso 7 ?_ rfl ?_ (xso 8 ?_ rfl ?_ ?_))))))))
 iterate 9 (rotate_left; focus ((try simp only [xap]); intro w hSw; (try dsimp only at hSw); go_simp; first | done | with_reducible rfl))
 try simp only [xap]
 refine xtk 9 (v := .int .u64 (A : Int)) rfl (Or.inl ⟨by rfl, ?_⟩) ?_
 · intro w hSw; (try dsimp only at hSw); go_simp; first | done | (rw [hA])
 try simp only [xap]
 refine xso 10 ?_ rfl ?_ ?_
 rotate_left
 · intro w hSw; (try dsimp only at hSw); go_simp; first | done | with_reducible rfl
 try simp only [xap]
 refine xdn ?_ _
 clear hHeld k2 k4 kr
 generalize V.drew = V1 at *
 have h1 : ¬ (65536 : Int) ≤ (A : Int) := by omega
 have hw : IntKind.u64.wrap (65536 - (A : Int)) = 65536 - (A : Int) := by rw [IntKind.wrap_u64]; omega
 have h2 : ¬ 65536 - (A : Int) < 8 := by omega
 have k0 : V1.cell? ⟨kb, 0, none⟩ = some (.int .u8 63) := (h.out.there (boxOb kb #[.int .u8 63, .int .i64 ia, .int .i64 ib, .int .i64 ic, .int .u64 imm]) (.head _)).2.1 0
 have hai : (ia : Int) < 16 := by omega
 go_upto_region 7 with fail
 clear k0 h1 hw h2
 have k1 : V1.drew.cell? ⟨kb, 1, none⟩ = some (.int .i64 ia) := (h.out.there (boxOb kb #[.int .u8 63, .int .i64 ia, .int .i64 ib, .int .i64 ic, .int .u64 imm]) (.head _)).2.1 1
 have kr : V1.drew.cell? ⟨b, 6 + ia, none⟩ = some (.int .u64 (v0 : Int)) := by rw [← hv.out]; exact h.out.hand.2.2 ia _ (regs_at s.r ia ha)
 refine wp_region_held_drew (S := (fun X => (X.cell? ⟨kb, 1, none⟩ = some (.int .i64 ia)) ∧ X.cell? ⟨b, 6 + ia, none⟩ = some (.int .u64 (v0 : Int)))) (by kernel_rfl) (⟨k1, kr⟩) (fun hHeld => ?_)
 refine xso 0 ?_ rfl ?_ (xso 1 ?_ rfl ?_ (xso 2 ?_ rfl ?_ (xso 3 ?_ rfl ?_ (xso 4 ?_ rfl ?_ (xso 5 ?_ rfl ?_ (xso 6 ?_ rfl ?_ (xso 7 ?_ rfl ?_ ?_)))))))
 iterate 8 (rotate_left; focus ((try simp only [xap]); intro w hSw; (try dsimp only at hSw); go_simp; first | done | with_reducible rfl))
 try simp only [xap]
 refine xdn ?_ _
 clear hHeld k1 kr
 replace hB := Hz.mk (hB.out.trans (((Gr.refl V1).drew).below.mono h.out.le))
 replace h := Hz.mk (h.out.gr ((Gr.refl V1).drew).below)
 generalize V1.drew = V2 at *
 have h0 : Hz (DIo B V2 b c P { s with m := T.putB s.m A v0 0 } og op (boxOb kb #[.int .u8 63, .int .i64 ia, .int .i64 ib, .int .i64 ic, .int .u64 imm] :: l)) := h
 clear h
 go_upto_region 9 with fail
 go_loopw [8, 9] (fun y x wr => ∃ j N : Nat, x = .int .u64 j ∧ y = .int .u64 N ∧ j ≤ 8 ∧ Hz (N = v0 / 2 ^ (8 * j)) ∧ Hz (DIo B wr b c P { s with m := T.putB s.m A v0 j } og op (boxOb kb #[.int .u8 63, .int .i64 ia, .int .i64 ib, .int .i64 ic, .int .u64 imm] :: l)) ∧ Hz (Below B W0 wr)) (fun _ x _ => 8 - (intOf x).toNat)
 case atStart => exact ⟨0, v0, rfl, rfl, by omega, Hz.mk (by simp), h0, hB⟩
 case round =>
   clear h0 hB
   obtain ⟨j, N, rfl, rfl, hj, hN, h, hB⟩ := hrel
   by_cases hq : j < 8
   · have hq1 : (j : Int) < 8 := by omega
     have hw1 : IntKind.u64.wrap ((j : Int) + 1) = (j : Int) + 1 := by rw [IntKind.wrap_u64]; omega
     have hwa : IntKind.u64.wrap ((A : Int) + (j : Int)) = (A : Int) + (j : Int) := by rw [IntKind.wrap_u64]; omega
     have hix : (A : Int) + (j : Int) < 65536 := by omega
     obtain ⟨gm, km, c23, hgm, hmem, hset⟩ := h.out.mem
     have cm := (hmem (A + j) (by omega)).1
     have fm := (hmem (A + j) (by omega)).2
     have hqo := Hz.mk (qu_next N (by rw [hN.out]; exact Nat.lt_of_le_of_lt (Nat.div_le_self _ _) hv64))
     have hst := hset (A + j) (by omega) (UInt8.ofNat (N % 256))
     rw [by_next N] at hst
     have hm1 : Hz (T.upd (T.putB s.m A v0 j) (A + j) (UInt8.ofNat (N % 256)) = T.putB s.m A v0 (j + 1)) := Hz.mk (by rw [hN.out]; rfl)
     rw [hm1.out] at hst
     replace hst := Hz.mk hst
     clear hmem hset
     go_wp2_with fail
     refine And.intro (Exists.intro (j + 1) (Exists.intro (N / 256) ⟨rfl, congrArg (Value.int IntKind.u64) hqo.out, by omega, Hz.mk (by rw [hN.out, Nat.div_div_eq_div_mul, show (256 : Nat) = 2 ^ 8 from rfl, ← Nat.pow_add, show 8 * j + 8 = 8 * (j + 1) by omega]), Hz.mk hst.out.1, Hz.mk (hB.out.trans hst.out.2)⟩)) ?_
     simp [intOf]
     omega
   · have hq1 : ¬ (j : Int) < 8 := by omega
     obtain rfl : j = 8 := by omega
     clear hN
     obtain ⟨m9, hm9⟩ : ∃ m, T.putB s.m A v0 8 = m := ⟨_, rfl⟩
     rw [hm9] at h
     replace hm9 := Hz.mk hm9
     go_upto_region 18 with fail
     obtain ⟨q, ta, tk, hq, c26, hO2, hap⟩ := h.out.appT ⟨true, (A : Int), 8⟩
     have hlt := hq.lt
     have hleW := h.out.le
     clear hq
     replace hO2 := Hz.mk hO2
     replace hap := Hz.mk hap
     have hxs : ∃ xs, s.tc.flatMap Tc.vals = xs := ⟨_, rfl⟩
     obtain ⟨xs, hxs⟩ := hxs
     rw [hxs] at hO2 hap
     clear hxs
     refine wp_region_lit ?_
     iterate 10 (refine wpList_plain rfl (fun K hK => ?_); go_simp; with_reducible refine hK _ _ ?_; clear hK K; (try simp only [xap]))
     have hX : At (wr.alloc (.cells (List.toArray [Value.bool true, .int .u64 (A : Int), .int .u64 8]) 56)) wr.heap.size (List.toArray [Value.bool true, .int .u64 (A : Int), .int .u64 8]) := At.new wr _ _
     have gX : Gr wr (wr.alloc (.cells (List.toArray [Value.bool true, .int .u64 (A : Int), .int .u64 8]) 56)) := (Gr.refl wr).alloc _
     generalize wr.alloc (.cells (List.toArray [Value.bool true, .int .u64 (A : Int), .int .u64 8]) 56) = VX at *
     generalize wr.heap.size = kX at hX ⊢
     refine wpList_plain rfl (fun K hK => ?_)
     refine wp_append_z _ _ 53 56 (.agg #[.bool false, .int .u64 0, .int .u64 0]) 3 24 rfl Tryz.underlying53 (by kernel_rfl) (by kernel_rfl) (by decide) (by decide) B (.slice ta s.tc.length tk) s.tc.length xs [Value.bool true, .int .u64 (A : Int), .int .u64 8] (by rfl) (hO2.out VX gX.below) kX (by rfl) hX rfl (by simp [Value.oneCell']) htl (Nat.le_trans hleW gX.below.size) ?_
     intro g cap W2 k1 k2 k3
     obtain ⟨hq2, hA2, hM, hBe⟩ := hap.out VX W2 g cap gX.below k1 k2 k3
     have cu : W2.cell? ⟨b, 26, none⟩ = some _ := hq2.at_ 26 (by omega)
     have fu := hq2.fr 26
     have hlt2 := hq2.lt
     replace hM := Hz.mk hM
     clear hap hO2 k1 k2 k3 hq2 hA2 hX gX
     with_reducible refine hK _ _ ?_
     clear hK K
     try simp only [xap]
     iterate 2 (refine wpList_plain rfl (fun K hK => ?_); go_simp; with_reducible refine hK _ _ ?_; clear hK K; (try simp only [xap]))
     refine wpList_plain rfl (fun K hK => ?_)
     go_simp
     with_reducible refine hK _ _ ?_
     clear hK K
     try simp only [Act.put]
     replace hB := Hz.mk (hB.out.trans hBe)
     clear hBe h cu fu hlt2 hlt c26 hleW
     generalize World.setCell _ _ _ = V5 at *
     have h := hM
     clear hM
     have c5 : V5.cell? ⟨b, 5, none⟩ = some (.int .i64 s.p) := by obtain ⟨q, hq⟩ := h.out.box; exact hq.at_ 5 (by omega)
     have f5 : V5.frozen? ⟨b, 5, none⟩ = false := by obtain ⟨q, hq⟩ := h.out.box; exact hq.fr 5
     have hlt : b < V5.heap.size := by obtain ⟨q, hq⟩ := h.out.box; exact hq.lt
     have hw5 : wrap64 ((s.p : Int) + 1) = (s.p : Int) + 1 := by unfold wrap64; omega
     have hpc := Hz.mk h.out.pc
     go_wp2_with fail
     first | go_end0 | ((try simp only [Exit.inBlock, Exit.then]); refine bodyPost_ret (results_none rfl _ _ _) rfl ?_)
     rw [hm9.out]
     refine ⟨rfl, hpc.out.1.drop, hB.out.trans hpc.out.2⟩
theorem dms65 (B : Nat) (W0 : World) (b : Nat) (c : Dc) (P : Pr) (s : Fm) (og op : Nat) (l : List Ob) (ia ib ic : Nat) (imm : Int) (h : DIo B W0 b c P s og op l) (hb : ib < 16) (A : Nat) (hA : IntKind.u64.wrap (s.r ib + imm) = (A : Int)) (v0 : Nat) (hv : s.r ia = (v0 : Int)) (hv64 : v0 < 18446744073709551616) (ha : ia < 16) (hf : A ≤ 65536 - 16) (htl : s.tc.length ≤ 1000000) (hp : s.p ≤ 1000000) :
   Calls Tryz.prog 55 #[.pointer (some ⟨b, 0, none⟩), .agg #[.int .u8 65, .int .i64 ia, .int .i64 ib, .int .i64 ic, .int .u64 imm]] W0 fun x w' => x = .returned (.tuple #[]) ∧ DIo B w' b c P ({ s with m := T.putB s.m A v0 16, tc := s.tc ++ [⟨true, (A : Int), 16⟩], p := s.p + 1 }) og op l ∧ Below B W0 w' := by
 replace hv := Hz.mk hv
 have h2 := Hz.mk (h.new #[.int .u8 65, .int .i64 ia, .int .i64 ib, .int .i64 ic, .int .u64 imm] 42)
 clear h
 go_enter Tryz.func55, Tryz.ntmps55
 go_upto_region 1 with fail
 refine wp_world (fun W => DIo B W b c P s og op (boxOb W0.heap.size #[.int .u8 65, .int .i64 ia, .int .i64 ib, .int .i64 ic, .int .u64 imm] :: l) ∧ Below B W0 W) h2.out ?_
 rintro W ⟨h, hB⟩
 replace h := Hz.mk h
 replace hB := Hz.mk hB
 clear h2
 generalize W0.heap.size = kb at *
 have KS := xk2 65 ia ib ic imm kb
 have k0 : W.cell? ⟨kb, 0, none⟩ = some (.int .u8 65) := (h.out.there (boxOb kb #[.int .u8 65, .int .i64 ia, .int .i64 ib, .int .i64 ic, .int .u64 imm]) (.head _)).2.1 0
 have hbi : (ib : Int) < 16 := by omega
 have hkb : kb < W.heap.size := (h.out.there (boxOb kb #[.int .u8 65, .int .i64 ia, .int .i64 ib, .int .i64 ic, .int .u64 imm]) (.head _)).1
 have hne : ¬ W.heap.size = kb := by omega
 go_upto_region 2 with fail
 refine wp_world (fun X => DIo B X b c P s og op (boxOb kb #[.int .u8 65, .int .i64 ia, .int .i64 ib, .int .i64 ic, .int .u64 imm] :: l) ∧ Below B W0 X) ⟨h.out.gr ((Gr.refl W).alloc _).below, hB.out.trans (((Gr.refl W).alloc _).below.mono h.out.le)⟩ ?_
 clear h hB k0 hkb hne
 rintro V ⟨h, hB⟩
 replace hB := Hz.mk (hB.trans (((Gr.refl V).drew).below.mono h.le))
 replace h := Hz.mk (h.gr ((Gr.refl V).drew).below)
 have k2 : V.drew.cell? ⟨kb, 2, none⟩ = some (.int .i64 ib) := (h.out.there (boxOb kb #[.int .u8 65, .int .i64 ia, .int .i64 ib, .int .i64 ic, .int .u64 imm]) (.head _)).2.1 2
 have k4 : V.drew.cell? ⟨kb, 4, none⟩ = some (.int .u64 imm) := (h.out.there (boxOb kb #[.int .u8 65, .int .i64 ia, .int .i64 ib, .int .i64 ic, .int .u64 imm]) (.head _)).2.1 4
 have kr : V.drew.cell? ⟨b, 6 + ib, none⟩ = some (.int .u64 (s.r ib)) := h.out.hand.2.2 ib _ (regs_at s.r ib hb)
 refine wp_region_held_drew (S := (fun X => (X.cell? ⟨kb, 2, none⟩ = some (.int .i64 ib)) ∧ X.cell? ⟨kb, 4, none⟩ = some (.int .u64 imm) ∧ X.cell? ⟨b, 6 + ib, none⟩ = some (.int .u64 (s.r ib)))) (by kernel_rfl) (⟨k2, k4, kr⟩) (fun hHeld => ?_)
 refine xso 0 ?_ rfl ?_ (xso 1 ?_ rfl ?_ (xso 2 ?_ rfl ?_ (xso 3 ?_ rfl ?_ (xso 4 ?_ rfl ?_ (xso 5 ?_ rfl ?_ (xso 6 ?_ rfl ?_ (xso 7 ?_ rfl ?_ (xso 8 ?_ rfl ?_ ?_))))))))
 iterate 9 (rotate_left; focus ((try simp only [xap]); intro w hSw; (try dsimp only at hSw); go_simp; first | done | with_reducible rfl))
 try simp only [xap]
 refine xtk 9 (v := .int .u64 (A : Int)) rfl (Or.inl ⟨by rfl, ?_⟩) ?_
 · intro w hSw; (try dsimp only at hSw); go_simp; first | done | (rw [hA])
 try simp only [xap]
 refine xso 10 ?_ rfl ?_ ?_
 rotate_left
 · intro w hSw; (try dsimp only at hSw); go_simp; first | done | with_reducible rfl
 try simp only [xap]
 refine xdn ?_ _
 clear hHeld k2 k4 kr
 generalize V.drew = V1 at *
 have h1 : ¬ (65536 : Int) ≤ (A : Int) := by omega
 have hw : IntKind.u64.wrap (65536 - (A : Int)) = 65536 - (A : Int) := by rw [IntKind.wrap_u64]; omega
 have h2 : ¬ 65536 - (A : Int) < 16 := by omega
 have k0 : V1.cell? ⟨kb, 0, none⟩ = some (.int .u8 65) := (h.out.there (boxOb kb #[.int .u8 65, .int .i64 ia, .int .i64 ib, .int .i64 ic, .int .u64 imm]) (.head _)).2.1 0
 have hai : (ia : Int) < 16 := by omega
 go_upto_region 7 with fail
 clear k0 h1 hw h2
 have k1 : V1.drew.cell? ⟨kb, 1, none⟩ = some (.int .i64 ia) := (h.out.there (boxOb kb #[.int .u8 65, .int .i64 ia, .int .i64 ib, .int .i64 ic, .int .u64 imm]) (.head _)).2.1 1
 have kr : V1.drew.cell? ⟨b, 6 + ia, none⟩ = some (.int .u64 (v0 : Int)) := by rw [← hv.out]; exact h.out.hand.2.2 ia _ (regs_at s.r ia ha)
 refine wp_region_held_drew (S := (fun X => (X.cell? ⟨kb, 1, none⟩ = some (.int .i64 ia)) ∧ X.cell? ⟨b, 6 + ia, none⟩ = some (.int .u64 (v0 : Int)))) (by kernel_rfl) (⟨k1, kr⟩) (fun hHeld => ?_)
 refine xso 0 ?_ rfl ?_ (xso 1 ?_ rfl ?_ (xso 2 ?_ rfl ?_ (xso 3 ?_ rfl ?_ (xso 4 ?_ rfl ?_ (xso 5 ?_ rfl ?_ (xso 6 ?_ rfl ?_ (xso 7 ?_ rfl ?_ ?_)))))))
 iterate 8 (rotate_left; focus ((try simp only [xap]); intro w hSw; (try dsimp only at hSw); go_simp; first | done | with_reducible rfl))
 try simp only [xap]
 refine xdn ?_ _
 clear hHeld k1 kr
 replace hB := Hz.mk (hB.out.trans (((Gr.refl V1).drew).below.mono h.out.le))
 replace h := Hz.mk (h.out.gr ((Gr.refl V1).drew).below)
 generalize V1.drew = V2 at *
 have h0 : Hz (DIo B V2 b c P { s with m := T.putB s.m A v0 0 } og op (boxOb kb #[.int .u8 65, .int .i64 ia, .int .i64 ib, .int .i64 ic, .int .u64 imm] :: l)) := h
 clear h
 go_upto_region 9 with fail
 go_loopw [8, 9] (fun y x wr => ∃ j N : Nat, x = .int .u64 j ∧ y = .int .u64 N ∧ j ≤ 16 ∧ Hz (N = v0 / 2 ^ (8 * j)) ∧ Hz (DIo B wr b c P { s with m := T.putB s.m A v0 j } og op (boxOb kb #[.int .u8 65, .int .i64 ia, .int .i64 ib, .int .i64 ic, .int .u64 imm] :: l)) ∧ Hz (Below B W0 wr)) (fun _ x _ => 16 - (intOf x).toNat)
 case atStart => exact ⟨0, v0, rfl, rfl, by omega, Hz.mk (by simp), h0, hB⟩
 case round =>
   clear h0 hB
   obtain ⟨j, N, rfl, rfl, hj, hN, h, hB⟩ := hrel
   by_cases hq : j < 16
   · have hq1 : (j : Int) < 16 := by omega
     have hw1 : IntKind.u64.wrap ((j : Int) + 1) = (j : Int) + 1 := by rw [IntKind.wrap_u64]; omega
     have hwa : IntKind.u64.wrap ((A : Int) + (j : Int)) = (A : Int) + (j : Int) := by rw [IntKind.wrap_u64]; omega
     have hix : (A : Int) + (j : Int) < 65536 := by omega
     obtain ⟨gm, km, c23, hgm, hmem, hset⟩ := h.out.mem
     have cm := (hmem (A + j) (by omega)).1
     have fm := (hmem (A + j) (by omega)).2
     have hqo := Hz.mk (qu_next N (by rw [hN.out]; exact Nat.lt_of_le_of_lt (Nat.div_le_self _ _) hv64))
     have hst := hset (A + j) (by omega) (UInt8.ofNat (N % 256))
     rw [by_next N] at hst
     have hm1 : Hz (T.upd (T.putB s.m A v0 j) (A + j) (UInt8.ofNat (N % 256)) = T.putB s.m A v0 (j + 1)) := Hz.mk (by rw [hN.out]; rfl)
     rw [hm1.out] at hst
     replace hst := Hz.mk hst
     clear hmem hset
     go_wp2_with fail
     refine And.intro (Exists.intro (j + 1) (Exists.intro (N / 256) ⟨rfl, congrArg (Value.int IntKind.u64) hqo.out, by omega, Hz.mk (by rw [hN.out, Nat.div_div_eq_div_mul, show (256 : Nat) = 2 ^ 8 from rfl, ← Nat.pow_add, show 8 * j + 8 = 8 * (j + 1) by omega]), Hz.mk hst.out.1, Hz.mk (hB.out.trans hst.out.2)⟩)) ?_
     simp [intOf]
     omega
   · have hq1 : ¬ (j : Int) < 16 := by omega
     obtain rfl : j = 16 := by omega
     clear hN
     obtain ⟨m9, hm9⟩ : ∃ m, T.putB s.m A v0 16 = m := ⟨_, rfl⟩
     rw [hm9] at h
     replace hm9 := Hz.mk hm9
     go_upto_region 18 with fail
     obtain ⟨q, ta, tk, hq, c26, hO2, hap⟩ := h.out.appT ⟨true, (A : Int), 16⟩
     have hlt := hq.lt
     have hleW := h.out.le
     clear hq
     replace hO2 := Hz.mk hO2
     replace hap := Hz.mk hap
     have hxs : ∃ xs, s.tc.flatMap Tc.vals = xs := ⟨_, rfl⟩
     obtain ⟨xs, hxs⟩ := hxs
     rw [hxs] at hO2 hap
     clear hxs
     refine wp_region_lit ?_
     iterate 10 (refine wpList_plain rfl (fun K hK => ?_); go_simp; with_reducible refine hK _ _ ?_; clear hK K; (try simp only [xap]))
     have hX : At (wr.alloc (.cells (List.toArray [Value.bool true, .int .u64 (A : Int), .int .u64 16]) 56)) wr.heap.size (List.toArray [Value.bool true, .int .u64 (A : Int), .int .u64 16]) := At.new wr _ _
     have gX : Gr wr (wr.alloc (.cells (List.toArray [Value.bool true, .int .u64 (A : Int), .int .u64 16]) 56)) := (Gr.refl wr).alloc _
     generalize wr.alloc (.cells (List.toArray [Value.bool true, .int .u64 (A : Int), .int .u64 16]) 56) = VX at *
     generalize wr.heap.size = kX at hX ⊢
     refine wpList_plain rfl (fun K hK => ?_)
     refine wp_append_z _ _ 53 56 (.agg #[.bool false, .int .u64 0, .int .u64 0]) 3 24 rfl Tryz.underlying53 (by kernel_rfl) (by kernel_rfl) (by decide) (by decide) B (.slice ta s.tc.length tk) s.tc.length xs [Value.bool true, .int .u64 (A : Int), .int .u64 16] (by rfl) (hO2.out VX gX.below) kX (by rfl) hX rfl (by simp [Value.oneCell']) htl (Nat.le_trans hleW gX.below.size) ?_
     intro g cap W2 k1 k2 k3
     obtain ⟨hq2, hA2, hM, hBe⟩ := hap.out VX W2 g cap gX.below k1 k2 k3
     have cu : W2.cell? ⟨b, 26, none⟩ = some _ := hq2.at_ 26 (by omega)
     have fu := hq2.fr 26
     have hlt2 := hq2.lt
     replace hM := Hz.mk hM
     clear hap hO2 k1 k2 k3 hq2 hA2 hX gX
     with_reducible refine hK _ _ ?_
     clear hK K
     try simp only [xap]
     iterate 2 (refine wpList_plain rfl (fun K hK => ?_); go_simp; with_reducible refine hK _ _ ?_; clear hK K; (try simp only [xap]))
     refine wpList_plain rfl (fun K hK => ?_)
     go_simp
     with_reducible refine hK _ _ ?_
     clear hK K
     try simp only [Act.put]
     replace hB := Hz.mk (hB.out.trans hBe)
     clear hBe h cu fu hlt2 hlt c26 hleW
     generalize World.setCell _ _ _ = V5 at *
     have h := hM
     clear hM
     have c5 : V5.cell? ⟨b, 5, none⟩ = some (.int .i64 s.p) := by obtain ⟨q, hq⟩ := h.out.box; exact hq.at_ 5 (by omega)
     have f5 : V5.frozen? ⟨b, 5, none⟩ = false := by obtain ⟨q, hq⟩ := h.out.box; exact hq.fr 5
     have hlt : b < V5.heap.size := by obtain ⟨q, hq⟩ := h.out.box; exact hq.lt
     have hw5 : wrap64 ((s.p : Int) + 1) = (s.p : Int) + 1 := by unfold wrap64; omega
     have hpc := Hz.mk h.out.pc
     go_wp2_with fail
     first | go_end0 | ((try simp only [Exit.inBlock, Exit.then]); refine bodyPost_ret (results_none rfl _ _ _) rfl ?_)
     rw [hm9.out]
     refine ⟨rfl, hpc.out.1.drop, hB.out.trans hpc.out.2⟩
end Z
end Go.Proofs.YthfphgjjieddjaaGreat


namespace Go.Proofs.YthfphgjjieddjaaGreat
namespace Z
open Go.RowKit
open T (Sep Ob Kp Mf FlIn boxOb)

theorem put_more (m : Nat → UInt8) (A v : Nat) (hv : v < 18446744073709551616) (k : Nat) : T.putB m A v (8 + k) = T.putB (T.putB m A v 8) (A + 8) 0 k := by
 induction k with
 | zero => rfl
 | succ k ih =>
   show T.upd (T.putB m A v (8 + k)) (A + (8 + k)) (UInt8.ofNat (v / 2 ^ (8 * (8 + k)) % 256)) = T.upd (T.putB (T.putB m A v 8) (A + 8) 0 k) (A + 8 + k) (UInt8.ofNat (0 / 2 ^ (8 * k) % 256))
   have hp : 18446744073709551616 ≤ 2 ^ (8 * (8 + k)) := Nat.le_trans (by decide : 18446744073709551616 ≤ 2 ^ 64) (Nat.pow_le_pow_right (by omega) (by omega))
   rw [ih, Nat.div_eq_of_lt (Nat.lt_of_lt_of_le hv hp), Nat.zero_div, Nat.add_assoc]
theorem ld_le (m : Nat → UInt8) (A k : Nat) (hk : k = 1 ∨ k = 8) (h : A + k ≤ 65536) : T.ldV m A k = T.leB m A k := by
 unfold T.ldV
 rw [if_pos (by simp [T.wordB]; omega)]
theorem st_put (m : Nat → UInt8) (A k v : Nat) (hk : k = 1 ∨ k = 8) (h : A + k ≤ 65536) : T.stB m A k v = T.putB m A v k := by
 unfold T.stB
 rw [if_pos (by simp [T.wordB]; omega)]
theorem dmemory_any (P : Pr) (i : Fi) (s : Fm) (n : Nat) (hs : s.Ok P) (he : s.e = 0) (ho : i.Ok n P.gates.length) (hop : 60 ≤ i.op ∧ i.op < 70) (B : Nat) (W : World) (b : Nat) (c : Dc) (og op : Nat) (l : List Ob) (h : DIo B W b c P s og op l) :
   Calls Tryz.prog 55 #[.pointer (some ⟨b, 0, none⟩), .agg #[.int .u8 i.op, .int .i64 i.a, .int .i64 i.b, .int .i64 i.c, .int .u64 i.i]] W fun x w' => x = .returned (.tuple #[]) ∧ DAft B w' b c P (stepI P i s) l ∧ Below B W w' := by
 have ia := ho.a
 have ib := ho.b
 have hp : s.p ≤ 1000000 := Nat.le_trans hs.p (by omega)
 have htl := hs.tl
 obtain ⟨A, hA⟩ : ∃ A : Nat, IntKind.u64.wrap (s.r i.b + i.i) = (A : Int) := ⟨(IntKind.u64.wrap (s.r i.b + i.i)).toNat, by rw [IntKind.wrap_u64]; omega⟩
 obtain ⟨v0, hv⟩ : ∃ v0 : Nat, s.r i.a = (v0 : Int) := ⟨(s.r i.a).toNat, by have := hs.r i.a; omega⟩
 have hv64 : v0 < 18446744073709551616 := by have := hs.r i.a; omega
 have hk : i.op = 60 ∨ i.op = 61 ∨ i.op = 62 ∨ i.op = 63 ∨ i.op = 64 ∨ i.op = 65 := by have := ho.op; unfold Named at this; omega
 rcases hk with e | e | e | e | e | e
 all_goals rw [e]
 · rw [show stepI P i s = stp60 i s by unfold stepI; rw [e]; rfl]
   unfold stp60
   rw [hA, Int.toNat_natCast]
   by_cases hf : 65536 - 1 < A
   · rw [if_pos (by omega)]
     refine (dmf60 B W b c P s og op l i.a i.b i.c i.i h ib A hA hf).mono ?_
     rintro x w' ⟨rfl, h1, h2⟩
     exact ⟨rfl, ⟨_, _, h1, fun _ => ⟨rfl, rfl⟩⟩, h2⟩
   · rw [if_neg (by omega), ld_le s.m A 1 (by omega) (by omega)]
     refine (dml60 B W b c P s og op l i.a i.b i.c i.i h ib A hA ia (by omega) htl hp).mono ?_
     rintro x w' ⟨rfl, h1, h2⟩
     exact ⟨rfl, ⟨_, _, h1, DEnd.run he⟩, h2⟩
 · rw [show stepI P i s = stp61 i s by unfold stepI; rw [e]; rfl]
   unfold stp61
   rw [hA, Int.toNat_natCast]
   by_cases hf : 65536 - 8 < A
   · rw [if_pos (by omega)]
     refine (dmf61 B W b c P s og op l i.a i.b i.c i.i h ib A hA hf).mono ?_
     rintro x w' ⟨rfl, h1, h2⟩
     exact ⟨rfl, ⟨_, _, h1, fun _ => ⟨rfl, rfl⟩⟩, h2⟩
   · rw [if_neg (by omega), ld_le s.m A 8 (by omega) (by omega)]
     refine (dml61 B W b c P s og op l i.a i.b i.c i.i h ib A hA ia (by omega) htl hp).mono ?_
     rintro x w' ⟨rfl, h1, h2⟩
     exact ⟨rfl, ⟨_, _, h1, DEnd.run he⟩, h2⟩
 · rw [show stepI P i s = stp62 i s by unfold stepI; rw [e]; rfl]
   unfold stp62
   rw [hA, Int.toNat_natCast]
   by_cases hf : 65536 - 1 < A
   · rw [if_pos (by omega)]
     refine (dmf62 B W b c P s og op l i.a i.b i.c i.i h ib A hA hf).mono ?_
     rintro x w' ⟨rfl, h1, h2⟩
     exact ⟨rfl, ⟨_, _, h1, fun _ => ⟨rfl, rfl⟩⟩, h2⟩
   · rw [if_neg (by omega), hv, Int.toNat_natCast, st_put s.m A 1 v0 (by omega) (by omega)]
     refine (dms62 B W b c P s og op l i.a i.b i.c i.i h ib A hA v0 hv hv64 ia (by omega) htl hp).mono ?_
     rintro x w' ⟨rfl, h1, h2⟩
     exact ⟨rfl, ⟨_, _, h1, DEnd.run he⟩, h2⟩
 · rw [show stepI P i s = stp63 i s by unfold stepI; rw [e]; rfl]
   unfold stp63
   rw [hA, Int.toNat_natCast]
   by_cases hf : 65536 - 8 < A
   · rw [if_pos (by omega)]
     refine (dmf63 B W b c P s og op l i.a i.b i.c i.i h ib A hA hf).mono ?_
     rintro x w' ⟨rfl, h1, h2⟩
     exact ⟨rfl, ⟨_, _, h1, fun _ => ⟨rfl, rfl⟩⟩, h2⟩
   · rw [if_neg (by omega), hv, Int.toNat_natCast, st_put s.m A 8 v0 (by omega) (by omega)]
     refine (dms63 B W b c P s og op l i.a i.b i.c i.i h ib A hA v0 hv hv64 ia (by omega) htl hp).mono ?_
     rintro x w' ⟨rfl, h1, h2⟩
     exact ⟨rfl, ⟨_, _, h1, DEnd.run he⟩, h2⟩
 · rw [show stepI P i s = stp64 i s by unfold stepI; rw [e]; rfl]
   unfold stp64
   rw [hA, Int.toNat_natCast]
   by_cases hf : 65536 - 16 < A
   · rw [if_pos (by omega)]
     refine (dmf64 B W b c P s og op l i.a i.b i.c i.i h ib A hA hf).mono ?_
     rintro x w' ⟨rfl, h1, h2⟩
     exact ⟨rfl, ⟨_, _, h1, fun _ => ⟨rfl, rfl⟩⟩, h2⟩
   · rw [if_neg (by omega), ld_le s.m A 8 (by omega) (by omega)]
     refine (dml64 B W b c P s og op l i.a i.b i.c i.i h ib A hA ia (by omega) htl hp).mono ?_
     rintro x w' ⟨rfl, h1, h2⟩
     exact ⟨rfl, ⟨_, _, h1, DEnd.run he⟩, h2⟩
 · rw [show stepI P i s = stp65 i s by unfold stepI; rw [e]; rfl]
   unfold stp65
   rw [hA, Int.toNat_natCast]
   by_cases hf : 65536 - 16 < A
   · rw [if_pos (by omega)]
     refine (dmf65 B W b c P s og op l i.a i.b i.c i.i h ib A hA hf).mono ?_
     rintro x w' ⟨rfl, h1, h2⟩
     exact ⟨rfl, ⟨_, _, h1, fun _ => ⟨rfl, rfl⟩⟩, h2⟩
   · rw [if_neg (by omega), hv, Int.toNat_natCast, st_put s.m A 8 v0 (by omega) (by omega), st_put _ (A + 8) 8 0 (by omega) (by omega), ← put_more s.m A v0 hv64 8]
     refine (dms65 B W b c P s og op l i.a i.b i.c i.i h ib A hA v0 hv hv64 ia (by omega) htl hp).mono ?_
     rintro x w' ⟨rfl, h1, h2⟩
     exact ⟨rfl, ⟨_, _, h1, DEnd.run he⟩, h2⟩
end Z
end Go.Proofs.YthfphgjjieddjaaGreat
