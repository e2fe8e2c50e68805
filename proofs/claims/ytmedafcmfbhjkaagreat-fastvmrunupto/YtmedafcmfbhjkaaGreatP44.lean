import Derived.Test.YtmedafcmfbhjkaaGreatP30
import Derived.Test.YtmedafcmfbhjkaaGreatP29
import Derived.Test.YtmedafcmfbhjkaaGreatZDMb
namespace Go.Proofs.YtmedafcmfbhjkaaGreat
set_option maxRecDepth 100000
set_option maxHeartbeats 40000000
namespace Z
open Go.RowKit
open T (Sep Ob Kp Mf FlIn boxOb)

theorem dbtw (n lo hi : Int) (w : World) :
   Calls Tryz.prog 57 #[.int .i64 n, .int .i64 lo, .int .i64 hi] w fun x w' => Says (lo ≤ n ∧ n ≤ hi) x ∧ w' = w := by
 by_cases h1 : lo ≤ n
 · by_cases h2 : n ≤ hi
   · skip
     go_enter Tryz.func57, Tryz.ntmps57
     go_wp2_with fail
     go_ret
     exact ⟨⟨true, rfl, iff_of_true rfl ⟨by omega, by omega⟩⟩, rfl⟩
   · skip
     go_enter Tryz.func57, Tryz.ntmps57
     go_wp2_with fail
     go_ret
     exact ⟨⟨false, rfl, iff_of_false (by decide) (fun q => by omega)⟩, rfl⟩
 · skip
   go_enter Tryz.func57, Tryz.ntmps57
   go_wp2_with fail
   go_ret
   exact ⟨⟨false, rfl, iff_of_false (by decide) (fun q => by omega)⟩, rfl⟩
theorem bool_f {v : Bool} {p : Prop} (h : v = true ↔ p) (hp : ¬ p) : v = false := by
 cases v
 · rfl
 · exact absurd (h.1 rfl) hp
theorem dnamed (op : Int) (w : World) (h : 0 ≤ op ∧ op < 256) :
   Calls Tryz.prog 69 #[.int .u8 op] w fun x w' => Says (Named op) x ∧ w' = w := by
 have hw : IntKind.i64.wrap op = op := by simp [IntKind.wrap, IntKind.bits, IntKind.signed]; omega
 have hw2 : wrap64 op = op := by unfold wrap64; omega
 go_enter Tryz.func69, Tryz.ntmps69
 go_wp2_with fail
 refine (dbtw _ _ _ _).mono ?_
 rintro r w0 ⟨⟨v0, rfl, hv0⟩, e1⟩
 subst e1
 go_wp2_with fail
 refine (dbtw _ _ _ _).mono ?_
 rintro r w1 ⟨⟨v1, rfl, hv1⟩, e1⟩
 subst e1
 go_wp2_with fail
 refine (dbtw _ _ _ _).mono ?_
 rintro r w2 ⟨⟨v2, rfl, hv2⟩, e1⟩
 subst e1
 go_wp2_with fail
 refine (dbtw _ _ _ _).mono ?_
 rintro r w3 ⟨⟨v3, rfl, hv3⟩, e1⟩
 subst e1
 go_wp2_with fail
 refine (dbtw _ _ _ _).mono ?_
 rintro r w4 ⟨⟨v4, rfl, hv4⟩, e1⟩
 subst e1
 obtain ⟨b, hb⟩ : ∃ b : Bool, b = (v0 || v1 || v2 || v3 || v4) := ⟨_, rfl⟩
 have hN : Hz (b = true ↔ Named op) := Hz.mk (by rw [hb]; simp only [Bool.or_eq_true, hv0, hv1, hv2, hv3, hv4]; unfold Named; omega)
 clear hv0 hv1 hv2 hv3 hv4 hw hw2 h
 cases v0
 · skip
   cases v1
   · skip
     cases v2
     · skip
       cases v3
       · skip
         cases v4
         · skip
           go_wp2_with fail
           go_ret
           exact ⟨⟨_, rfl, by first | exact hN.out | (have := hN.out; rw [hb] at this; simpa using this)⟩, rfl⟩
         · skip
           go_wp2_with fail
           go_ret
           exact ⟨⟨_, rfl, by first | exact hN.out | (have := hN.out; rw [hb] at this; simpa using this)⟩, rfl⟩
       · skip
         go_wp2_with fail
         go_ret
         exact ⟨⟨_, rfl, by first | exact hN.out | (have := hN.out; rw [hb] at this; simpa using this)⟩, rfl⟩
     · skip
       go_wp2_with fail
       go_ret
       exact ⟨⟨_, rfl, by first | exact hN.out | (have := hN.out; rw [hb] at this; simpa using this)⟩, rfl⟩
   · skip
     go_wp2_with fail
     go_ret
     exact ⟨⟨_, rfl, by first | exact hN.out | (have := hN.out; rw [hb] at this; simpa using this)⟩, rfl⟩
 · skip
   go_wp2_with fail
   go_ret
   exact ⟨⟨_, rfl, by first | exact hN.out | (have := hN.out; rw [hb] at this; simpa using this)⟩, rfl⟩
theorem dinst_any (i : Ri) (n k : Nat) (w : World) (hi : i.Is) (hl : n ≤ 1000 ∧ k ≤ 1000) :
   Calls Tryz.prog 58 #[.agg #[.int .u8 i.op, .int .i64 i.a, .int .i64 i.b, .int .i64 i.c, .int .u64 i.i], .int .i64 n, .int .i64 k] w fun x w' => Says (i.Ok n k) x ∧ Gr w w' := by
 obtain ⟨op, ia, ib, ic, im⟩ := i
 dsimp only at *
 have hop := Hz.mk hi.op
 have hn : IntKind.u64.wrap (n : Int) = (n : Int) := by simp [IntKind.wrap, IntKind.bits, IntKind.signed]; omega
 have hk : IntKind.u64.wrap (k : Int) = (k : Int) := by simp [IntKind.wrap, IntKind.bits, IntKind.signed]; omega
 have hw : IntKind.i64.wrap op = op := by have := hop.out; dsimp only at this; simp [IntKind.wrap, IntKind.bits, IntKind.signed]; omega
 have hw2 : wrap64 op = op := by have := hop.out; dsimp only at this; unfold wrap64; omega
 replace hl := Hz.mk hl
 clear hi
 by_cases h70 : 70 ≤ op
 · skip
   have h31 : (op == 31) = false := beq_false_of_ne (by omega)
   go_enter Tryz.func58, Tryz.ntmps58
   go_wp2_with fail
   refine (dnamed _ _ hop.out).mono ?_
   rintro r w1 ⟨⟨v0, rfl, hv0⟩, e1⟩
   subst e1
   replace hv0 := Hz.mk hv0
   go_wp2_with fail
   refine (dbtw _ _ _ _).mono ?_
   rintro r w2 ⟨⟨v1, rfl, hv1⟩, e1⟩
   subst e1
   replace hv1 := Hz.mk hv1
   go_wp2_with fail
   refine (dbtw _ _ _ _).mono ?_
   rintro r w3 ⟨⟨v2, rfl, hv2⟩, e1⟩
   subst e1
   replace hv2 := Hz.mk hv2
   go_wp2_with fail
   refine (dbtw _ _ _ _).mono ?_
   rintro r w4 ⟨⟨v3, rfl, hv3⟩, e1⟩
   subst e1
   replace hv3 := Hz.mk hv3
   go_wp2_with fail
   refine (dbtw _ _ _ _).mono ?_
   rintro r w5 ⟨⟨v5, rfl, hv5⟩, e1⟩
   subst e1
   obtain rfl : v5 = false := bool_f hv5 (by omega)
   clear hv5
   cases v0
   · skip
     go_wp2_with fail
     go_ret
     exact ⟨⟨false, rfl, iff_of_false (by decide) (fun q => absurd (hv0.out.2 q.op) (by decide))⟩, (by first | exact Gr.refl _ | exact (Gr.refl _).alloc _)⟩
   · skip
     cases v1
     · skip
       go_wp2_with fail
       go_ret
       exact ⟨⟨false, rfl, iff_of_false (by decide) (fun q => absurd (hv1.out.2 q.fl.1) (by decide))⟩, (by first | exact Gr.refl _ | exact (Gr.refl _).alloc _)⟩
     · skip
       cases v2
       · skip
         go_wp2_with fail
         go_ret
         exact ⟨⟨false, rfl, iff_of_false (by decide) (fun q => absurd (hv2.out.2 q.fl.2.1) (by decide))⟩, (by first | exact Gr.refl _ | exact (Gr.refl _).alloc _)⟩
       · skip
         cases v3
         · skip
           go_wp2_with fail
           go_ret
           exact ⟨⟨false, rfl, iff_of_false (by decide) (fun q => absurd (hv3.out.2 ⟨q.fl.2.2.1, by have z := q.fl.2.2.2; dsimp only at z; rw [if_pos (by omega)] at z; exact z⟩) (by decide))⟩, (by first | exact Gr.refl _ | exact (Gr.refl _).alloc _)⟩
         · skip
           go_wp2_with fail
           go_ret
           exact ⟨⟨true, rfl, iff_of_true rfl ⟨hv0.out.1 (by trivial), ⟨hv1.out.1 (by trivial), hv2.out.1 (by trivial), (hv3.out.1 (by trivial)).1, by dsimp only; rw [if_pos (by omega)]; exact (hv3.out.1 (by trivial)).2⟩, by unfold Ri.Th; dsimp only; omega⟩⟩, (by first | exact Gr.refl _ | exact (Gr.refl _).alloc _)⟩
 · by_cases h31 : op = 31
   · subst h31
     by_cases y : (k : Int) ≤ im
     · skip
       go_enter Tryz.func58, Tryz.ntmps58
       go_wp2_with fail
       refine (dnamed _ _ hop.out).mono ?_
       rintro r w1 ⟨⟨v0, rfl, hv0⟩, e1⟩
       subst e1
       replace hv0 := Hz.mk hv0
       go_wp2_with fail
       refine (dbtw _ _ _ _).mono ?_
       rintro r w2 ⟨⟨v1, rfl, hv1⟩, e1⟩
       subst e1
       replace hv1 := Hz.mk hv1
       go_wp2_with fail
       refine (dbtw _ _ _ _).mono ?_
       rintro r w3 ⟨⟨v2, rfl, hv2⟩, e1⟩
       subst e1
       replace hv2 := Hz.mk hv2
       go_wp2_with fail
       refine (dbtw _ _ _ _).mono ?_
       rintro r w4 ⟨⟨v3, rfl, hv3⟩, e1⟩
       subst e1
       replace hv3 := Hz.mk hv3
       go_wp2_with fail
       refine (dbtw _ _ _ _).mono ?_
       rintro r w5 ⟨⟨v5, rfl, hv5⟩, e1⟩
       subst e1
       obtain rfl : v5 = false := bool_f hv5 (by omega)
       clear hv5
       go_wp2_with fail
       go_ret
       exact ⟨⟨false, rfl, iff_of_false (by decide) (fun q => absurd (q.th.2 rfl) (by dsimp only; omega))⟩, (by first | exact Gr.refl _ | exact (Gr.refl _).alloc _)⟩
     · skip
       go_enter Tryz.func58, Tryz.ntmps58
       go_wp2_with fail
       refine (dnamed _ _ hop.out).mono ?_
       rintro r w1 ⟨⟨v0, rfl, hv0⟩, e1⟩
       subst e1
       replace hv0 := Hz.mk hv0
       go_wp2_with fail
       refine (dbtw _ _ _ _).mono ?_
       rintro r w2 ⟨⟨v1, rfl, hv1⟩, e1⟩
       subst e1
       replace hv1 := Hz.mk hv1
       go_wp2_with fail
       refine (dbtw _ _ _ _).mono ?_
       rintro r w3 ⟨⟨v2, rfl, hv2⟩, e1⟩
       subst e1
       replace hv2 := Hz.mk hv2
       go_wp2_with fail
       refine (dbtw _ _ _ _).mono ?_
       rintro r w4 ⟨⟨v3, rfl, hv3⟩, e1⟩
       subst e1
       replace hv3 := Hz.mk hv3
       go_wp2_with fail
       refine (dbtw _ _ _ _).mono ?_
       rintro r w5 ⟨⟨v5, rfl, hv5⟩, e1⟩
       subst e1
       obtain rfl : v5 = false := bool_f hv5 (by omega)
       clear hv5
       cases v0
       · skip
         go_wp2_with fail
         go_ret
         exact ⟨⟨false, rfl, iff_of_false (by decide) (fun q => absurd (hv0.out.2 q.op) (by decide))⟩, (by first | exact Gr.refl _ | exact (Gr.refl _).alloc _)⟩
       · skip
         cases v1
         · skip
           go_wp2_with fail
           go_ret
           exact ⟨⟨false, rfl, iff_of_false (by decide) (fun q => absurd (hv1.out.2 q.fl.1) (by decide))⟩, (by first | exact Gr.refl _ | exact (Gr.refl _).alloc _)⟩
         · skip
           cases v2
           · skip
             go_wp2_with fail
             go_ret
             exact ⟨⟨false, rfl, iff_of_false (by decide) (fun q => absurd (hv2.out.2 q.fl.2.1) (by decide))⟩, (by first | exact Gr.refl _ | exact (Gr.refl _).alloc _)⟩
           · skip
             cases v3
             · skip
               go_wp2_with fail
               go_ret
               exact ⟨⟨false, rfl, iff_of_false (by decide) (fun q => absurd (hv3.out.2 ⟨q.fl.2.2.1, by have z := q.fl.2.2.2; dsimp only at z; rw [if_neg (by omega)] at z; exact z⟩) (by decide))⟩, (by first | exact Gr.refl _ | exact (Gr.refl _).alloc _)⟩
             · skip
               go_wp2_with fail
               go_ret
               exact ⟨⟨true, rfl, iff_of_true rfl ⟨hv0.out.1 (by trivial), ⟨hv1.out.1 (by trivial), hv2.out.1 (by trivial), (hv3.out.1 (by trivial)).1, by dsimp only; rw [if_neg (by omega)]; exact (hv3.out.1 (by trivial)).2⟩, by unfold Ri.Th; dsimp only; omega⟩⟩, (by first | exact Gr.refl _ | exact (Gr.refl _).alloc _)⟩
   · have h31b : (op == 31) = false := beq_false_of_ne h31
     by_cases hj : 20 ≤ op ∧ op ≤ 24
     · by_cases y : (n : Int) ≤ im
       · skip
         go_enter Tryz.func58, Tryz.ntmps58
         go_wp2_with fail
         refine (dnamed _ _ hop.out).mono ?_
         rintro r w1 ⟨⟨v0, rfl, hv0⟩, e1⟩
         subst e1
         replace hv0 := Hz.mk hv0
         go_wp2_with fail
         refine (dbtw _ _ _ _).mono ?_
         rintro r w2 ⟨⟨v1, rfl, hv1⟩, e1⟩
         subst e1
         replace hv1 := Hz.mk hv1
         go_wp2_with fail
         refine (dbtw _ _ _ _).mono ?_
         rintro r w3 ⟨⟨v2, rfl, hv2⟩, e1⟩
         subst e1
         replace hv2 := Hz.mk hv2
         go_wp2_with fail
         refine (dbtw _ _ _ _).mono ?_
         rintro r w4 ⟨⟨v3, rfl, hv3⟩, e1⟩
         subst e1
         replace hv3 := Hz.mk hv3
         go_wp2_with fail
         refine (dbtw _ _ _ _).mono ?_
         rintro r w5 ⟨⟨v5, rfl, hv5⟩, e1⟩
         subst e1
         obtain rfl : v5 = true := hv5.2 (by omega)
         clear hv5
         go_wp2_with fail
         go_ret
         exact ⟨⟨false, rfl, iff_of_false (by decide) (fun q => absurd (q.th.1 hj) (by dsimp only; omega))⟩, (by first | exact Gr.refl _ | exact (Gr.refl _).alloc _)⟩
       · skip
         go_enter Tryz.func58, Tryz.ntmps58
         go_wp2_with fail
         refine (dnamed _ _ hop.out).mono ?_
         rintro r w1 ⟨⟨v0, rfl, hv0⟩, e1⟩
         subst e1
         replace hv0 := Hz.mk hv0
         go_wp2_with fail
         refine (dbtw _ _ _ _).mono ?_
         rintro r w2 ⟨⟨v1, rfl, hv1⟩, e1⟩
         subst e1
         replace hv1 := Hz.mk hv1
         go_wp2_with fail
         refine (dbtw _ _ _ _).mono ?_
         rintro r w3 ⟨⟨v2, rfl, hv2⟩, e1⟩
         subst e1
         replace hv2 := Hz.mk hv2
         go_wp2_with fail
         refine (dbtw _ _ _ _).mono ?_
         rintro r w4 ⟨⟨v3, rfl, hv3⟩, e1⟩
         subst e1
         replace hv3 := Hz.mk hv3
         go_wp2_with fail
         refine (dbtw _ _ _ _).mono ?_
         rintro r w5 ⟨⟨v5, rfl, hv5⟩, e1⟩
         subst e1
         obtain rfl : v5 = true := hv5.2 (by omega)
         clear hv5
         cases v0
         · skip
           go_wp2_with fail
           go_ret
           exact ⟨⟨false, rfl, iff_of_false (by decide) (fun q => absurd (hv0.out.2 q.op) (by decide))⟩, (by first | exact Gr.refl _ | exact (Gr.refl _).alloc _)⟩
         · skip
           cases v1
           · skip
             go_wp2_with fail
             go_ret
             exact ⟨⟨false, rfl, iff_of_false (by decide) (fun q => absurd (hv1.out.2 q.fl.1) (by decide))⟩, (by first | exact Gr.refl _ | exact (Gr.refl _).alloc _)⟩
           · skip
             cases v2
             · skip
               go_wp2_with fail
               go_ret
               exact ⟨⟨false, rfl, iff_of_false (by decide) (fun q => absurd (hv2.out.2 q.fl.2.1) (by decide))⟩, (by first | exact Gr.refl _ | exact (Gr.refl _).alloc _)⟩
             · skip
               cases v3
               · skip
                 go_wp2_with fail
                 go_ret
                 exact ⟨⟨false, rfl, iff_of_false (by decide) (fun q => absurd (hv3.out.2 ⟨q.fl.2.2.1, by have z := q.fl.2.2.2; dsimp only at z; rw [if_neg (by omega)] at z; exact z⟩) (by decide))⟩, (by first | exact Gr.refl _ | exact (Gr.refl _).alloc _)⟩
               · skip
                 go_wp2_with fail
                 go_ret
                 exact ⟨⟨true, rfl, iff_of_true rfl ⟨hv0.out.1 (by trivial), ⟨hv1.out.1 (by trivial), hv2.out.1 (by trivial), (hv3.out.1 (by trivial)).1, by dsimp only; rw [if_neg (by omega)]; exact (hv3.out.1 (by trivial)).2⟩, by unfold Ri.Th; dsimp only; omega⟩⟩, (by first | exact Gr.refl _ | exact (Gr.refl _).alloc _)⟩
     · skip
       go_enter Tryz.func58, Tryz.ntmps58
       go_wp2_with fail
       refine (dnamed _ _ hop.out).mono ?_
       rintro r w1 ⟨⟨v0, rfl, hv0⟩, e1⟩
       subst e1
       replace hv0 := Hz.mk hv0
       go_wp2_with fail
       refine (dbtw _ _ _ _).mono ?_
       rintro r w2 ⟨⟨v1, rfl, hv1⟩, e1⟩
       subst e1
       replace hv1 := Hz.mk hv1
       go_wp2_with fail
       refine (dbtw _ _ _ _).mono ?_
       rintro r w3 ⟨⟨v2, rfl, hv2⟩, e1⟩
       subst e1
       replace hv2 := Hz.mk hv2
       go_wp2_with fail
       refine (dbtw _ _ _ _).mono ?_
       rintro r w4 ⟨⟨v3, rfl, hv3⟩, e1⟩
       subst e1
       replace hv3 := Hz.mk hv3
       go_wp2_with fail
       refine (dbtw _ _ _ _).mono ?_
       rintro r w5 ⟨⟨v5, rfl, hv5⟩, e1⟩
       subst e1
       obtain rfl : v5 = false := bool_f hv5 (by omega)
       clear hv5
       cases v0
       · skip
         go_wp2_with fail
         go_ret
         exact ⟨⟨false, rfl, iff_of_false (by decide) (fun q => absurd (hv0.out.2 q.op) (by decide))⟩, (by first | exact Gr.refl _ | exact (Gr.refl _).alloc _)⟩
       · skip
         cases v1
         · skip
           go_wp2_with fail
           go_ret
           exact ⟨⟨false, rfl, iff_of_false (by decide) (fun q => absurd (hv1.out.2 q.fl.1) (by decide))⟩, (by first | exact Gr.refl _ | exact (Gr.refl _).alloc _)⟩
         · skip
           cases v2
           · skip
             go_wp2_with fail
             go_ret
             exact ⟨⟨false, rfl, iff_of_false (by decide) (fun q => absurd (hv2.out.2 q.fl.2.1) (by decide))⟩, (by first | exact Gr.refl _ | exact (Gr.refl _).alloc _)⟩
           · skip
             cases v3
             · skip
               go_wp2_with fail
               go_ret
               exact ⟨⟨false, rfl, iff_of_false (by decide) (fun q => absurd (hv3.out.2 ⟨q.fl.2.2.1, by have z := q.fl.2.2.2; dsimp only at z; rw [if_neg (by omega)] at z; exact z⟩) (by decide))⟩, (by first | exact Gr.refl _ | exact (Gr.refl _).alloc _)⟩
             · skip
               go_wp2_with fail
               go_ret
               exact ⟨⟨true, rfl, iff_of_true rfl ⟨hv0.out.1 (by trivial), ⟨hv1.out.1 (by trivial), hv2.out.1 (by trivial), (hv3.out.1 (by trivial)).1, by dsimp only; rw [if_neg (by omega)]; exact (hv3.out.1 (by trivial)).2⟩, by unfold Ri.Th; dsimp only; omega⟩⟩, (by first | exact Gr.refl _ | exact (Gr.refl _).alloc _)⟩
end Z
end Go.Proofs.YtmedafcmfbhjkaaGreat


namespace Go.Proofs.YtmedafcmfbhjkaaGreat
set_option maxRecDepth 100000
set_option maxHeartbeats 40000000
namespace Z
open Go.RowKit
open T (Sep Ob Kp Mf FlIn boxOb)

theorem dmay_any (R : Rp) (ca ga : Option Addr) (cc gc : Nat) (mem : ByteArray) (w : World) (hP : RpIn w ca ga R) (is : R.Is) (hrl : ∀ r ∈ R.code, r.length ≤ 2000000) :
   Calls Tryz.prog 45 #[.agg #[.slice ca R.code.length cc, .slice ga R.gates.length gc, .string mem, .int .i64 R.dep]] w fun x w' => Says (R.Ok mem.size) x ∧ Gr w w' := by
 replace is := Hz.mk is
 replace hrl := Hz.mk hrl
 go_enter Tryz.func45, Tryz.ntmps45
 go_upto_region 1 with fail
 refine wp_world (fun W => At W w.heap.size #[.slice ca R.code.length cc, .slice ga R.gates.length gc, .string mem, .int .i64 R.dep] ∧ Gr w W) ⟨At.new w _ _, (Gr.refl _).alloc _⟩ ?_
 rintro W ⟨hA, G⟩
 replace hP := Hz.mk (hP.gr G)
 generalize w.heap.size = kp at *
 have c0 : W.cell? ⟨kp, 0, none⟩ = some (.slice ca R.code.length cc) := hA.2.1 0
 have c1 : W.cell? ⟨kp, 1, none⟩ = some (.slice ga R.gates.length gc) := hA.2.1 1
 have c2 : W.cell? ⟨kp, 2, none⟩ = some (.string mem) := hA.2.1 2
 have c3 : W.cell? ⟨kp, 3, none⟩ = some (.int .i64 R.dep) := hA.2.1 3
 replace hA := Hz.mk hA
 go_wp2_with fail
 refine (dbtw _ _ _ _).mono ?_
 rintro r w1 ⟨⟨v0, rfl, hv0⟩, e1⟩
 subst e1
 replace hv0 := Hz.mk hv0
 go_wp2_with fail
 refine (dbtw _ _ _ _).mono ?_
 rintro r w2 ⟨⟨v1, rfl, hv1⟩, e1⟩
 subst e1
 replace hv1 := Hz.mk hv1
 cases v0
 · skip
   have z : Hz (Says (R.Ok mem.size) (.returned (.bool false))) := Hz.mk ⟨false, rfl, iff_of_false (by decide) (fun q => absurd (hv0.out.2 (by have := q.n1; omega)) (by decide))⟩
   go_wp2_with fail
   go_ret
   exact ⟨z.out, G⟩
 have n1 := hv0.out.1 (by trivial)
 by_cases nc : R.code.length = R.gates.length
 rotate_left
 · have nci : ((R.code.length : Int) != (R.gates.length : Int)) = true := by simp; omega
   have z : Hz (Says (R.Ok mem.size) (.returned (.bool false))) := Hz.mk ⟨false, rfl, iff_of_false (by decide) (fun q => absurd q.nc nc)⟩
   clear nc
   go_wp2_with fail
   go_ret
   exact ⟨z.out, G⟩
 have nci : ((R.code.length : Int) != (R.gates.length : Int)) = false := by simp [nc]
 replace nc := Hz.mk nc
 cases v1
 · skip
   have z : Hz (Says (R.Ok mem.size) (.returned (.bool false))) := Hz.mk ⟨false, rfl, iff_of_false (by decide) (fun q => absurd (hv1.out.2 q.dp) (by decide))⟩
   go_wp2_with fail
   go_ret
   exact ⟨z.out, G⟩
 have dp := Hz.mk (hv1.out.1 (by trivial))
 by_cases hmi : (65536 : Int) < (mem.size : Int)
 · skip
   have z : Hz (Says (R.Ok mem.size) (.returned (.bool false))) := Hz.mk ⟨false, rfl, iff_of_false (by decide) (fun q => absurd q.mm (by omega))⟩
   go_wp2_with fail
   go_ret
   exact ⟨z.out, G⟩
 have hlen : R.gates.length ≤ 1000000 := by omega
 have hl16 : R.gates.length ≤ 1000 := by omega
 replace n1 := Hz.mk n1
 clear hv0 hv1
 go_upto_region 7 with fail
 clear c2 c3 nci
 replace c0 := Hz.mk c0
 replace c1 := Hz.mk c1
 go_loopw [6] (fun x wr => ∃ k : Nat, x = .int .i64 k ∧ k ≤ R.gates.length ∧ Hz (∀ m, m < k → R.Gt m) ∧ Hz (Gr w2 wr)) (fun x _ => R.gates.length - (intOf x).toNat)
 case atStart => exact ⟨0, rfl, Nat.zero_le _, Hz.mk (fun m q => absurd q (Nat.not_lt_zero _)), Hz.mk (Gr.refl _)⟩
 case round =>
   obtain ⟨k, rfl, hk, hbe, G2⟩ := hrel
   by_cases hlt : k < R.gates.length
   · have hk1 : (k : Int) < (R.gates.length : Int) := Int.ofNat_lt.2 hlt
     have hkc : k < R.code.length := by rw [nc.out]; exact hlt
     have hk2 : (k : Int) < (R.code.length : Int) := Int.ofNat_lt.2 hkc
     have his := Hz.mk (is.out.code _ (List.getElem_mem hkc))
     obtain ⟨gb, goff, e8, hgb, hgr⟩ := (hP.out.gr G2.out).gate k hlt
     obtain ⟨b, off, ra, rc, e9, hb9, hcc, hE⟩ := (hP.out.gr G2.out).code k hkc
     have hAw := hA.out.gr G2.out
     have d0 : wr.cell? ⟨kp, 0, none⟩ = some (.slice (some ⟨b, off, none⟩) R.code.length cc) := by rw [← e9]; exact hAw.2.1 0
     have d1 : wr.cell? ⟨kp, 1, none⟩ = some (.slice (some ⟨gb, goff, none⟩) R.gates.length gc) := by rw [← e8]; exact hAw.2.1 1
     have f0 : wr.cell? ⟨gb, goff + k * 19, none⟩ = some (.int .i64 R.gates[k].e) := hgr 0 _ rfl
     have f1 : wr.cell? ⟨gb, goff + k * 19 + 1, none⟩ = some (.int .i64 R.gates[k].a) := hgr 1 _ rfl
     have f2 : wr.cell? ⟨gb, goff + k * 19 + 2, none⟩ = some (.int .i64 R.gates[k].s) := hgr 2 _ rfl
     replace hE := Hz.mk hE
     replace e8 := Hz.mk e8
     replace e9 := Hz.mk e9
     clear hgr hAw
     have hrow2 := Hz.mk (hrl.out _ (List.getElem_mem hkc))
     obtain ⟨RW, hRW⟩ : ∃ RW, R.code[k] = RW := ⟨_, rfl⟩
     obtain ⟨GT, hGT⟩ : ∃ GT, R.gates[k] = GT := ⟨_, rfl⟩
     rw [hRW] at hcc hE his hrow2
     rw [hGT] at f0 f1 f2
     have hgt : Hz (R.Gt k ↔ RowOk RW R.gates.length ∧ GT.Ok RW.length) := Hz.mk ⟨fun ⟨_, _, p, q⟩ => by rw [hRW] at p q; rw [hGT] at q; exact ⟨p, q⟩, fun ⟨p, q⟩ => ⟨hlt, hkc, by rw [hRW]; exact p, by rw [hRW, hGT]; exact q⟩⟩
     replace hRW := Hz.mk hRW
     replace hGT := Hz.mk hGT
     have hwr : wrap64 ((RW.length : Int) - 1) = (RW.length : Int) - 1 := by have := hrow2.out; unfold wrap64; omega
     go_wp2_with fail
     refine (dbtw _ _ _ _).mono ?_
     rintro r u1 ⟨⟨v0, rfl, hv0⟩, e1⟩
     subst e1
     replace hv0 := Hz.mk hv0
     go_wp2_with fail
     refine (dbtw _ _ _ _).mono ?_
     rintro r u2 ⟨⟨v1, rfl, hv1⟩, e1⟩
     subst e1
     replace hv1 := Hz.mk hv1
     go_wp2_with fail
     refine (dbtw _ _ _ _).mono ?_
     rintro r u3 ⟨⟨v2, rfl, hv2⟩, e1⟩
     subst e1
     replace hv2 := Hz.mk hv2
     go_wp2_with fail
     refine (dbtw _ _ _ _).mono ?_
     rintro r u4 ⟨⟨v3, rfl, hv3⟩, e1⟩
     subst e1
     replace hv3 := Hz.mk hv3
     cases v0
     · skip
       have z : Hz (Says (R.Ok mem.size) (.returned (.bool false))) := Hz.mk ⟨false, rfl, iff_of_false (by decide) (fun q => absurd ((fun (p : RowOk RW R.gates.length ∧ GT.Ok RW.length) => hv0.out.2 (by have := p.1.1; omega)) (hgt.out.1 (q.gt k hlt))) (by decide))⟩
       go_wp2_with fail
       go_ret
       exact ⟨z.out, G.trans G2.out⟩
     · skip
       cases v1
       · skip
         have z : Hz (Says (R.Ok mem.size) (.returned (.bool false))) := Hz.mk ⟨false, rfl, iff_of_false (by decide) (fun q => absurd ((fun (p : RowOk RW R.gates.length ∧ GT.Ok RW.length) => hv1.out.2 (by have := p.2.1; omega)) (hgt.out.1 (q.gt k hlt))) (by decide))⟩
         go_wp2_with fail
         go_ret
         exact ⟨z.out, G.trans G2.out⟩
       · skip
         cases v2
         · skip
           have z : Hz (Says (R.Ok mem.size) (.returned (.bool false))) := Hz.mk ⟨false, rfl, iff_of_false (by decide) (fun q => absurd ((fun (p : RowOk RW R.gates.length ∧ GT.Ok RW.length) => hv2.out.2 p.2.2.1) (hgt.out.1 (q.gt k hlt))) (by decide))⟩
           go_wp2_with fail
           go_ret
           exact ⟨z.out, G.trans G2.out⟩
         · skip
           cases v3
           · skip
             have z : Hz (Says (R.Ok mem.size) (.returned (.bool false))) := Hz.mk ⟨false, rfl, iff_of_false (by decide) (fun q => absurd ((fun (p : RowOk RW R.gates.length ∧ GT.Ok RW.length) => hv3.out.2 p.2.2.2) (hgt.out.1 (q.gt k hlt))) (by decide))⟩
             go_wp2_with fail
             go_ret
             exact ⟨z.out, G.trans G2.out⟩
           · skip
             have hr := Hz.mk (hv0.out.1 (by trivial))
             have hgo : Hz (GT.Ok RW.length) := Hz.mk ⟨by have := hv1.out.1 (by trivial); omega, hv2.out.1 (by trivial), hv3.out.1 (by trivial)⟩
             have hrk : RW.length ≤ 1000 := by have := hr.out; omega
             clear hv0 hv1 hv2 hv3 f0 f1 f2 d0 d1 hcc hwr
             go_upto_region 17 with fail
             go_loopw [12] (fun x wq => ∃ j : Nat, x = .int .i64 j ∧ j ≤ RW.length ∧ Hz (∀ m (h : m < RW.length), m < j → RW[m].Ok RW.length R.gates.length) ∧ Hz (Gr u4 wq)) (fun x _ => RW.length - (intOf x).toNat)
             case atStart => exact ⟨0, rfl, Nat.zero_le _, Hz.mk (fun m _ q => absurd q (Nat.not_lt_zero _)), Hz.mk (Gr.refl _)⟩
             case round =>
               obtain ⟨j, rfl, hj, hbj, G3⟩ := hrel
               by_cases hjl : j < RW.length
               · have hj1 : (j : Int) < (RW.length : Int) := Int.ofNat_lt.2 hjl
                 obtain ⟨rb, ro, era, hrb, hrg⟩ := reat5 hE.out G3.out j hjl
                 subst era
                 have hin := Hz.mk (dinst_any RW[j] RW.length R.gates.length wr (his.out _ (List.getElem_mem hjl)) ⟨hrk, hl16⟩)
                 have g0 : Hz (wr.rangeAt rb (ro + j * 5) RW[j].vals) := Hz.mk hrg
                 clear hrg
                 go_upto_region 19 with fail
                 refine wp_region_lit ?_
                 iterate 3 (refine wpList_plain rfl (fun K hK => ?_); go_simp; with_reducible refine hK _ _ ?_; clear hK K; (try simp only [xap]))
                 refine wpList_plain rfl (fun K hK => ?_)
                 refine wp_load_mid _ _ rfl _ (ro + j * 5) rfl RW[j].vals _ g0.out Tryz.underlying52 rfl (by kernel_rfl) (hK _ _ ?_)
                 clear hK K
                 try simp only [xap]
                 iterate 3 (refine wpList_plain rfl (fun K hK => ?_); go_simp; with_reducible refine hK _ _ ?_; clear hK K; (try simp only [xap]))
                 refine wpList_plain rfl (fun K hK => ?_)
                 go_simp
                 (refine hin.out.mono ?_; rintro r V9 ⟨hS9, G9⟩; obtain ⟨v9, rfl, hv9⟩ := hS9)
                 with_reducible refine hK _ _ ?_
                 clear hK K
                 try simp only [xap]
                 refine wpList_plain rfl (fun K hK => ?_)
                 go_simp
                 with_reducible refine hK _ _ ?_
                 clear hK K
                 try simp only [xap]
                 cases v9
                 · have z : Hz (Says (R.Ok mem.size) (.returned (.bool false))) := Hz.mk ⟨false, rfl, iff_of_false (by decide) (fun q => by
                     have p := hgt.out.1 (q.gt k hlt)
                     exact absurd (hv9.2 (p.1.2 j hjl)) (by decide))⟩
                   go_wp2_with fail
                   go_ret
                   exact ⟨z.out, G.trans (G2.out.trans (G3.out.trans G9))⟩
                 · have hok := Hz.mk (hv9.1 (by trivial))
                   go_wp2_with fail
                   refine ⟨⟨j + 1, ?_, hjl, Hz.mk (fun m hm q => ?_), Hz.mk (G3.out.trans G9)⟩, ?_⟩
                   · first | rfl | rw [next_wZ hjl (by omega)] | go_num
                   · by_cases e : m = j
                     · subst e
                       exact hok.out
                     · exact hbj.out m hm (by omega)
                   · first | exact next_mZ hjl | (rw [next_wZ hjl (by omega)]; exact next_mZ hjl)
               · have hj1 : ¬ (j : Int) < (RW.length : Int) := fun q => hjl (Int.ofNat_lt.1 q)
                 obtain rfl : j = RW.length := by omega
                 have hG := Hz.mk (hgt.out.2 ⟨⟨by have := hr.out; omega, fun m hm => hbj.out m hm hm⟩, hgo.out⟩)
                 go_wp2_with fail
                 refine ⟨⟨k + 1, ?_, hlt, Hz.mk (fun m q => ?_), Hz.mk (G2.out.trans G3.out)⟩, ?_⟩
                 · first | rfl | rw [next_wZ hlt hlen] | go_num
                 · by_cases e : m = k
                   · subst e
                     exact hG.out
                   · exact hbe.out m (by omega)
                 · first | exact next_mZ hlt | (rw [next_wZ hlt hlen]; exact next_mZ hlt)
   · have hk1 : ¬ (k : Int) < (R.gates.length : Int) := fun q => hlt (Int.ofNat_lt.1 q)
     obtain rfl : k = R.gates.length := by omega
     have z : Hz (Says (R.Ok mem.size) (.returned (.bool true))) := Hz.mk ⟨true, rfl, iff_of_true rfl ⟨by have := n1.out; omega, nc.out, dp.out, by omega, hbe.out⟩⟩
     go_wp2_with fail
     go_ret
     exact ⟨z.out, G.trans G2.out⟩
end Z
end Go.Proofs.YtmedafcmfbhjkaaGreat


namespace Go.Proofs.YtmedafcmfbhjkaaGreat
set_option maxRecDepth 100000
set_option maxHeartbeats 40000000
namespace Z
open Go.RowKit
open T (Sep Ob Kp Mf FlIn boxOb)

theorem dmf60 (B : Nat) (W0 : World) (b : Nat) (c : Dc) (P : Pr) (s : Fm) (og op : Nat) (l : List Ob) (ia ib ic : Nat) (imm : Int) (h : DIo B W0 b c P s og op l) (hb : ib < 16) (A : Nat) (hA : IntKind.u64.wrap (s.r ib + imm) = (A : Int)) (hf : 65536 - 1 < A) :
   Calls Tryz.prog 30 #[.pointer (some ⟨b, 0, none⟩), .agg #[.int .u8 60, .int .i64 ia, .int .i64 ib, .int .i64 ic, .int .u64 imm]] W0 fun x w' => x = .returned (.tuple #[]) ∧ DIo B w' b c P ({ s with e := 7, v := 0, f := 5 }) s.g s.p l ∧ Below B W0 w' := by
 have h2 := Hz.mk (h.new #[.int .u8 60, .int .i64 ia, .int .i64 ib, .int .i64 ic, .int .u64 imm] 52)
 clear h
 go_enter Tryz.func30, Tryz.ntmps30
 go_upto_region 1 with fail
 refine wp_world (fun W => DIo B W b c P s og op (boxOb W0.heap.size #[.int .u8 60, .int .i64 ia, .int .i64 ib, .int .i64 ic, .int .u64 imm] :: l) ∧ Below B W0 W) h2.out ?_
 rintro W ⟨h, hB⟩
 replace h := Hz.mk h
 replace hB := Hz.mk hB
 clear h2
 generalize W0.heap.size = kb at *
 have KS := xk2 60 ia ib ic imm kb
 have k0 : W.cell? ⟨kb, 0, none⟩ = some (.int .u8 60) := (h.out.there (boxOb kb #[.int .u8 60, .int .i64 ia, .int .i64 ib, .int .i64 ic, .int .u64 imm]) (.head _)).2.1 0
 have hbi : (ib : Int) < 16 := by omega
 have hkb : kb < W.heap.size := (h.out.there (boxOb kb #[.int .u8 60, .int .i64 ia, .int .i64 ib, .int .i64 ic, .int .u64 imm]) (.head _)).1
 have hne : ¬ W.heap.size = kb := by omega
 go_upto_region 2 with fail
 refine wp_world (fun X => DIo B X b c P s og op (boxOb kb #[.int .u8 60, .int .i64 ia, .int .i64 ib, .int .i64 ic, .int .u64 imm] :: l) ∧ Below B W0 X) ⟨h.out.gr ((Gr.refl W).alloc _).below, hB.out.trans (((Gr.refl W).alloc _).below.mono h.out.le)⟩ ?_
 clear h hB k0 hkb hne
 rintro V ⟨h, hB⟩
 replace hB := Hz.mk (hB.trans (((Gr.refl V).drew).below.mono h.le))
 replace h := Hz.mk (h.gr ((Gr.refl V).drew).below)
 have k2 : V.drew.cell? ⟨kb, 2, none⟩ = some (.int .i64 ib) := (h.out.there (boxOb kb #[.int .u8 60, .int .i64 ia, .int .i64 ib, .int .i64 ic, .int .u64 imm]) (.head _)).2.1 2
 have k4 : V.drew.cell? ⟨kb, 4, none⟩ = some (.int .u64 imm) := (h.out.there (boxOb kb #[.int .u8 60, .int .i64 ia, .int .i64 ib, .int .i64 ic, .int .u64 imm]) (.head _)).2.1 4
 have kr : V.drew.cell? ⟨b, 6 + ib, none⟩ = some (.int .u64 (s.r ib)) := h.out.hand.2.2 ib _ (regs_at s.r ib hb)
 refine wp_region_held_drew (S := (fun X => (X.cell? ⟨kb, 2, none⟩ = some (.int .i64 ib)) ∧ X.cell? ⟨kb, 4, none⟩ = some (.int .u64 imm) ∧ X.cell? ⟨b, 6 + ib, none⟩ = some (.int .u64 (s.r ib)))) (by kernel_rfl) (⟨k2, k4, kr⟩) (fun hHeld => ?_)
 refine xso 0 ?_ rfl ?_ (xso 1 ?_ rfl ?_ (xso 2 ?_ rfl ?_ (xso 3 ?_ rfl ?_ (xso 4 ?_ rfl ?_ (xso 5 ?_ rfl ?_ (xso 6 ?_ rfl ?_ (xso 7 ?_ rfl ?_ (xso 8 ?_ rfl ?_ ?_))))))))
 iterate 9 (rotate_left; focus ((try simp only [xap]); intro w hSw; (try dsimp only at hSw); go_simp; first | done | with_reducible rfl))
 try simp only [xap]
 refine xtk 9 (v := .int .u64 (A : Int)) rfl (Or.inl ⟨by rfl, ?_⟩) ?_
 · intro w hSw; (try dsimp only at hSw); go_simp; first | done | (rw [hA])
 try simp only [xap]
 refine xso 10 ?_ rfl ?_ ?_
 rotate_left
 · intro w hSw; (try dsimp only at hSw); go_simp; first | done | with_reducible rfl
 try simp only [xap]
 refine xdn ?_ _
 clear hHeld k2 k4 kr
 generalize V.drew = V1 at *
 have hen := Hz.mk (h.out.onBox (s' := { s with e := 7, v := 0, f := 5 }) (og' := s.g) (op' := s.p) ⟨rfl, rfl, rfl, rfl, rfl⟩ (fun q hb => dend_any b _ 7 0 5 V1 hb))
 by_cases hq : 65536 ≤ A
 · have h1 : (65536 : Int) ≤ (A : Int) := by omega
   go_wp2_with fail
   refine hen.out.mono ?_
   rintro r V9 ⟨rfl, h9, hB9⟩
   replace hB := Hz.mk (hB.out.trans hB9)
   replace h9 := Hz.mk h9
   clear hen hB9
   go_wp2_with fail
   first | go_end0 | ((try simp only [Exit.inBlock, Exit.then]); refine bodyPost_ret (results_none rfl _ _ _) rfl ?_)
   exact ⟨rfl, h9.out.drop, hB.out⟩
 · have h1 : ¬ (65536 : Int) ≤ (A : Int) := by omega
   have hw : IntKind.u64.wrap (65536 - (A : Int)) = 65536 - (A : Int) := by rw [IntKind.wrap_u64]; omega
   have h2 : 65536 - (A : Int) < 1 := by omega
   go_wp2_with fail
   refine hen.out.mono ?_
   rintro r V9 ⟨rfl, h9, hB9⟩
   replace hB := Hz.mk (hB.out.trans hB9)
   replace h9 := Hz.mk h9
   clear hen hB9
   go_wp2_with fail
   first | go_end0 | ((try simp only [Exit.inBlock, Exit.then]); refine bodyPost_ret (results_none rfl _ _ _) rfl ?_)
   exact ⟨rfl, h9.out.drop, hB.out⟩
theorem dmf61 (B : Nat) (W0 : World) (b : Nat) (c : Dc) (P : Pr) (s : Fm) (og op : Nat) (l : List Ob) (ia ib ic : Nat) (imm : Int) (h : DIo B W0 b c P s og op l) (hb : ib < 16) (A : Nat) (hA : IntKind.u64.wrap (s.r ib + imm) = (A : Int)) (hf : 65536 - 8 < A) :
   Calls Tryz.prog 30 #[.pointer (some ⟨b, 0, none⟩), .agg #[.int .u8 61, .int .i64 ia, .int .i64 ib, .int .i64 ic, .int .u64 imm]] W0 fun x w' => x = .returned (.tuple #[]) ∧ DIo B w' b c P ({ s with e := 7, v := 0, f := 5 }) s.g s.p l ∧ Below B W0 w' := by
 have h2 := Hz.mk (h.new #[.int .u8 61, .int .i64 ia, .int .i64 ib, .int .i64 ic, .int .u64 imm] 52)
 clear h
 go_enter Tryz.func30, Tryz.ntmps30
 go_upto_region 1 with fail
 refine wp_world (fun W => DIo B W b c P s og op (boxOb W0.heap.size #[.int .u8 61, .int .i64 ia, .int .i64 ib, .int .i64 ic, .int .u64 imm] :: l) ∧ Below B W0 W) h2.out ?_
 rintro W ⟨h, hB⟩
 replace h := Hz.mk h
 replace hB := Hz.mk hB
 clear h2
 generalize W0.heap.size = kb at *
 have KS := xk2 61 ia ib ic imm kb
 have k0 : W.cell? ⟨kb, 0, none⟩ = some (.int .u8 61) := (h.out.there (boxOb kb #[.int .u8 61, .int .i64 ia, .int .i64 ib, .int .i64 ic, .int .u64 imm]) (.head _)).2.1 0
 have hbi : (ib : Int) < 16 := by omega
 have hkb : kb < W.heap.size := (h.out.there (boxOb kb #[.int .u8 61, .int .i64 ia, .int .i64 ib, .int .i64 ic, .int .u64 imm]) (.head _)).1
 have hne : ¬ W.heap.size = kb := by omega
 go_upto_region 2 with fail
 refine wp_world (fun X => DIo B X b c P s og op (boxOb kb #[.int .u8 61, .int .i64 ia, .int .i64 ib, .int .i64 ic, .int .u64 imm] :: l) ∧ Below B W0 X) ⟨h.out.gr ((Gr.refl W).alloc _).below, hB.out.trans (((Gr.refl W).alloc _).below.mono h.out.le)⟩ ?_
 clear h hB k0 hkb hne
 rintro V ⟨h, hB⟩
 replace hB := Hz.mk (hB.trans (((Gr.refl V).drew).below.mono h.le))
 replace h := Hz.mk (h.gr ((Gr.refl V).drew).below)
 have k2 : V.drew.cell? ⟨kb, 2, none⟩ = some (.int .i64 ib) := (h.out.there (boxOb kb #[.int .u8 61, .int .i64 ia, .int .i64 ib, .int .i64 ic, .int .u64 imm]) (.head _)).2.1 2
 have k4 : V.drew.cell? ⟨kb, 4, none⟩ = some (.int .u64 imm) := (h.out.there (boxOb kb #[.int .u8 61, .int .i64 ia, .int .i64 ib, .int .i64 ic, .int .u64 imm]) (.head _)).2.1 4
 have kr : V.drew.cell? ⟨b, 6 + ib, none⟩ = some (.int .u64 (s.r ib)) := h.out.hand.2.2 ib _ (regs_at s.r ib hb)
 refine wp_region_held_drew (S := (fun X => (X.cell? ⟨kb, 2, none⟩ = some (.int .i64 ib)) ∧ X.cell? ⟨kb, 4, none⟩ = some (.int .u64 imm) ∧ X.cell? ⟨b, 6 + ib, none⟩ = some (.int .u64 (s.r ib)))) (by kernel_rfl) (⟨k2, k4, kr⟩) (fun hHeld => ?_)
 refine xso 0 ?_ rfl ?_ (xso 1 ?_ rfl ?_ (xso 2 ?_ rfl ?_ (xso 3 ?_ rfl ?_ (xso 4 ?_ rfl ?_ (xso 5 ?_ rfl ?_ (xso 6 ?_ rfl ?_ (xso 7 ?_ rfl ?_ (xso 8 ?_ rfl ?_ ?_))))))))
 iterate 9 (rotate_left; focus ((try simp only [xap]); intro w hSw; (try dsimp only at hSw); go_simp; first | done | with_reducible rfl))
 try simp only [xap]
 refine xtk 9 (v := .int .u64 (A : Int)) rfl (Or.inl ⟨by rfl, ?_⟩) ?_
 · intro w hSw; (try dsimp only at hSw); go_simp; first | done | (rw [hA])
 try simp only [xap]
 refine xso 10 ?_ rfl ?_ ?_
 rotate_left
 · intro w hSw; (try dsimp only at hSw); go_simp; first | done | with_reducible rfl
 try simp only [xap]
 refine xdn ?_ _
 clear hHeld k2 k4 kr
 generalize V.drew = V1 at *
 have hen := Hz.mk (h.out.onBox (s' := { s with e := 7, v := 0, f := 5 }) (og' := s.g) (op' := s.p) ⟨rfl, rfl, rfl, rfl, rfl⟩ (fun q hb => dend_any b _ 7 0 5 V1 hb))
 by_cases hq : 65536 ≤ A
 · have h1 : (65536 : Int) ≤ (A : Int) := by omega
   go_wp2_with fail
   refine hen.out.mono ?_
   rintro r V9 ⟨rfl, h9, hB9⟩
   replace hB := Hz.mk (hB.out.trans hB9)
   replace h9 := Hz.mk h9
   clear hen hB9
   go_wp2_with fail
   first | go_end0 | ((try simp only [Exit.inBlock, Exit.then]); refine bodyPost_ret (results_none rfl _ _ _) rfl ?_)
   exact ⟨rfl, h9.out.drop, hB.out⟩
 · have h1 : ¬ (65536 : Int) ≤ (A : Int) := by omega
   have hw : IntKind.u64.wrap (65536 - (A : Int)) = 65536 - (A : Int) := by rw [IntKind.wrap_u64]; omega
   have h2 : 65536 - (A : Int) < 8 := by omega
   go_wp2_with fail
   refine hen.out.mono ?_
   rintro r V9 ⟨rfl, h9, hB9⟩
   replace hB := Hz.mk (hB.out.trans hB9)
   replace h9 := Hz.mk h9
   clear hen hB9
   go_wp2_with fail
   first | go_end0 | ((try simp only [Exit.inBlock, Exit.then]); refine bodyPost_ret (results_none rfl _ _ _) rfl ?_)
   exact ⟨rfl, h9.out.drop, hB.out⟩
theorem dmf62 (B : Nat) (W0 : World) (b : Nat) (c : Dc) (P : Pr) (s : Fm) (og op : Nat) (l : List Ob) (ia ib ic : Nat) (imm : Int) (h : DIo B W0 b c P s og op l) (hb : ib < 16) (A : Nat) (hA : IntKind.u64.wrap (s.r ib + imm) = (A : Int)) (hf : 65536 - 1 < A) :
   Calls Tryz.prog 30 #[.pointer (some ⟨b, 0, none⟩), .agg #[.int .u8 62, .int .i64 ia, .int .i64 ib, .int .i64 ic, .int .u64 imm]] W0 fun x w' => x = .returned (.tuple #[]) ∧ DIo B w' b c P ({ s with e := 7, v := 0, f := 5 }) s.g s.p l ∧ Below B W0 w' := by
 have h2 := Hz.mk (h.new #[.int .u8 62, .int .i64 ia, .int .i64 ib, .int .i64 ic, .int .u64 imm] 52)
 clear h
 go_enter Tryz.func30, Tryz.ntmps30
 go_upto_region 1 with fail
 refine wp_world (fun W => DIo B W b c P s og op (boxOb W0.heap.size #[.int .u8 62, .int .i64 ia, .int .i64 ib, .int .i64 ic, .int .u64 imm] :: l) ∧ Below B W0 W) h2.out ?_
 rintro W ⟨h, hB⟩
 replace h := Hz.mk h
 replace hB := Hz.mk hB
 clear h2
 generalize W0.heap.size = kb at *
 have KS := xk2 62 ia ib ic imm kb
 have k0 : W.cell? ⟨kb, 0, none⟩ = some (.int .u8 62) := (h.out.there (boxOb kb #[.int .u8 62, .int .i64 ia, .int .i64 ib, .int .i64 ic, .int .u64 imm]) (.head _)).2.1 0
 have hbi : (ib : Int) < 16 := by omega
 have hkb : kb < W.heap.size := (h.out.there (boxOb kb #[.int .u8 62, .int .i64 ia, .int .i64 ib, .int .i64 ic, .int .u64 imm]) (.head _)).1
 have hne : ¬ W.heap.size = kb := by omega
 go_upto_region 2 with fail
 refine wp_world (fun X => DIo B X b c P s og op (boxOb kb #[.int .u8 62, .int .i64 ia, .int .i64 ib, .int .i64 ic, .int .u64 imm] :: l) ∧ Below B W0 X) ⟨h.out.gr ((Gr.refl W).alloc _).below, hB.out.trans (((Gr.refl W).alloc _).below.mono h.out.le)⟩ ?_
 clear h hB k0 hkb hne
 rintro V ⟨h, hB⟩
 replace hB := Hz.mk (hB.trans (((Gr.refl V).drew).below.mono h.le))
 replace h := Hz.mk (h.gr ((Gr.refl V).drew).below)
 have k2 : V.drew.cell? ⟨kb, 2, none⟩ = some (.int .i64 ib) := (h.out.there (boxOb kb #[.int .u8 62, .int .i64 ia, .int .i64 ib, .int .i64 ic, .int .u64 imm]) (.head _)).2.1 2
 have k4 : V.drew.cell? ⟨kb, 4, none⟩ = some (.int .u64 imm) := (h.out.there (boxOb kb #[.int .u8 62, .int .i64 ia, .int .i64 ib, .int .i64 ic, .int .u64 imm]) (.head _)).2.1 4
 have kr : V.drew.cell? ⟨b, 6 + ib, none⟩ = some (.int .u64 (s.r ib)) := h.out.hand.2.2 ib _ (regs_at s.r ib hb)
 refine wp_region_held_drew (S := (fun X => (X.cell? ⟨kb, 2, none⟩ = some (.int .i64 ib)) ∧ X.cell? ⟨kb, 4, none⟩ = some (.int .u64 imm) ∧ X.cell? ⟨b, 6 + ib, none⟩ = some (.int .u64 (s.r ib)))) (by kernel_rfl) (⟨k2, k4, kr⟩) (fun hHeld => ?_)
 refine xso 0 ?_ rfl ?_ (xso 1 ?_ rfl ?_ (xso 2 ?_ rfl ?_ (xso 3 ?_ rfl ?_ (xso 4 ?_ rfl ?_ (xso 5 ?_ rfl ?_ (xso 6 ?_ rfl ?_ (xso 7 ?_ rfl ?_ (xso 8 ?_ rfl ?_ ?_))))))))
 iterate 9 (rotate_left; focus ((try simp only [xap]); intro w hSw; (try dsimp only at hSw); go_simp; first | done | with_reducible rfl))
 try simp only [xap]
 refine xtk 9 (v := .int .u64 (A : Int)) rfl (Or.inl ⟨by rfl, ?_⟩) ?_
 · intro w hSw; (try dsimp only at hSw); go_simp; first | done | (rw [hA])
 try simp only [xap]
 refine xso 10 ?_ rfl ?_ ?_
 rotate_left
 · intro w hSw; (try dsimp only at hSw); go_simp; first | done | with_reducible rfl
 try simp only [xap]
 refine xdn ?_ _
 clear hHeld k2 k4 kr
 generalize V.drew = V1 at *
 have hen := Hz.mk (h.out.onBox (s' := { s with e := 7, v := 0, f := 5 }) (og' := s.g) (op' := s.p) ⟨rfl, rfl, rfl, rfl, rfl⟩ (fun q hb => dend_any b _ 7 0 5 V1 hb))
 by_cases hq : 65536 ≤ A
 · have h1 : (65536 : Int) ≤ (A : Int) := by omega
   go_wp2_with fail
   refine hen.out.mono ?_
   rintro r V9 ⟨rfl, h9, hB9⟩
   replace hB := Hz.mk (hB.out.trans hB9)
   replace h9 := Hz.mk h9
   clear hen hB9
   go_wp2_with fail
   first | go_end0 | ((try simp only [Exit.inBlock, Exit.then]); refine bodyPost_ret (results_none rfl _ _ _) rfl ?_)
   exact ⟨rfl, h9.out.drop, hB.out⟩
 · have h1 : ¬ (65536 : Int) ≤ (A : Int) := by omega
   have hw : IntKind.u64.wrap (65536 - (A : Int)) = 65536 - (A : Int) := by rw [IntKind.wrap_u64]; omega
   have h2 : 65536 - (A : Int) < 1 := by omega
   go_wp2_with fail
   refine hen.out.mono ?_
   rintro r V9 ⟨rfl, h9, hB9⟩
   replace hB := Hz.mk (hB.out.trans hB9)
   replace h9 := Hz.mk h9
   clear hen hB9
   go_wp2_with fail
   first | go_end0 | ((try simp only [Exit.inBlock, Exit.then]); refine bodyPost_ret (results_none rfl _ _ _) rfl ?_)
   exact ⟨rfl, h9.out.drop, hB.out⟩
theorem dmf63 (B : Nat) (W0 : World) (b : Nat) (c : Dc) (P : Pr) (s : Fm) (og op : Nat) (l : List Ob) (ia ib ic : Nat) (imm : Int) (h : DIo B W0 b c P s og op l) (hb : ib < 16) (A : Nat) (hA : IntKind.u64.wrap (s.r ib + imm) = (A : Int)) (hf : 65536 - 8 < A) :
   Calls Tryz.prog 30 #[.pointer (some ⟨b, 0, none⟩), .agg #[.int .u8 63, .int .i64 ia, .int .i64 ib, .int .i64 ic, .int .u64 imm]] W0 fun x w' => x = .returned (.tuple #[]) ∧ DIo B w' b c P ({ s with e := 7, v := 0, f := 5 }) s.g s.p l ∧ Below B W0 w' := by
 have h2 := Hz.mk (h.new #[.int .u8 63, .int .i64 ia, .int .i64 ib, .int .i64 ic, .int .u64 imm] 52)
 clear h
 go_enter Tryz.func30, Tryz.ntmps30
 go_upto_region 1 with fail
 refine wp_world (fun W => DIo B W b c P s og op (boxOb W0.heap.size #[.int .u8 63, .int .i64 ia, .int .i64 ib, .int .i64 ic, .int .u64 imm] :: l) ∧ Below B W0 W) h2.out ?_
 rintro W ⟨h, hB⟩
 replace h := Hz.mk h
 replace hB := Hz.mk hB
 clear h2
 generalize W0.heap.size = kb at *
 have KS := xk2 63 ia ib ic imm kb
 have k0 : W.cell? ⟨kb, 0, none⟩ = some (.int .u8 63) := (h.out.there (boxOb kb #[.int .u8 63, .int .i64 ia, .int .i64 ib, .int .i64 ic, .int .u64 imm]) (.head _)).2.1 0
 have hbi : (ib : Int) < 16 := by omega
 have hkb : kb < W.heap.size := (h.out.there (boxOb kb #[.int .u8 63, .int .i64 ia, .int .i64 ib, .int .i64 ic, .int .u64 imm]) (.head _)).1
 have hne : ¬ W.heap.size = kb := by omega
 go_upto_region 2 with fail
 refine wp_world (fun X => DIo B X b c P s og op (boxOb kb #[.int .u8 63, .int .i64 ia, .int .i64 ib, .int .i64 ic, .int .u64 imm] :: l) ∧ Below B W0 X) ⟨h.out.gr ((Gr.refl W).alloc _).below, hB.out.trans (((Gr.refl W).alloc _).below.mono h.out.le)⟩ ?_
 clear h hB k0 hkb hne
 rintro V ⟨h, hB⟩
 replace hB := Hz.mk (hB.trans (((Gr.refl V).drew).below.mono h.le))
 replace h := Hz.mk (h.gr ((Gr.refl V).drew).below)
 have k2 : V.drew.cell? ⟨kb, 2, none⟩ = some (.int .i64 ib) := (h.out.there (boxOb kb #[.int .u8 63, .int .i64 ia, .int .i64 ib, .int .i64 ic, .int .u64 imm]) (.head _)).2.1 2
 have k4 : V.drew.cell? ⟨kb, 4, none⟩ = some (.int .u64 imm) := (h.out.there (boxOb kb #[.int .u8 63, .int .i64 ia, .int .i64 ib, .int .i64 ic, .int .u64 imm]) (.head _)).2.1 4
 have kr : V.drew.cell? ⟨b, 6 + ib, none⟩ = some (.int .u64 (s.r ib)) := h.out.hand.2.2 ib _ (regs_at s.r ib hb)
 refine wp_region_held_drew (S := (fun X => (X.cell? ⟨kb, 2, none⟩ = some (.int .i64 ib)) ∧ X.cell? ⟨kb, 4, none⟩ = some (.int .u64 imm) ∧ X.cell? ⟨b, 6 + ib, none⟩ = some (.int .u64 (s.r ib)))) (by kernel_rfl) (⟨k2, k4, kr⟩) (fun hHeld => ?_)
 refine xso 0 ?_ rfl ?_ (xso 1 ?_ rfl ?_ (xso 2 ?_ rfl ?_ (xso 3 ?_ rfl ?_ (xso 4 ?_ rfl ?_ (xso 5 ?_ rfl ?_ (xso 6 ?_ rfl ?_ (xso 7 ?_ rfl ?_ (xso 8 ?_ rfl ?_ ?_))))))))
 iterate 9 (rotate_left; focus ((try simp only [xap]); intro w hSw; (try dsimp only at hSw); go_simp; first | done | with_reducible rfl))
 try simp only [xap]
 refine xtk 9 (v := .int .u64 (A : Int)) rfl (Or.inl ⟨by rfl, ?_⟩) ?_
 · intro w hSw; (try dsimp only at hSw); go_simp; first | done | (rw [hA])
 try simp only [xap]
 refine xso 10 ?_ rfl ?_ ?_
 rotate_left
 · intro w hSw; (try dsimp only at hSw); go_simp; first | done | with_reducible rfl
 try simp only [xap]
 refine xdn ?_ _
 clear hHeld k2 k4 kr
 generalize V.drew = V1 at *
 have hen := Hz.mk (h.out.onBox (s' := { s with e := 7, v := 0, f := 5 }) (og' := s.g) (op' := s.p) ⟨rfl, rfl, rfl, rfl, rfl⟩ (fun q hb => dend_any b _ 7 0 5 V1 hb))
 by_cases hq : 65536 ≤ A
 · have h1 : (65536 : Int) ≤ (A : Int) := by omega
   go_wp2_with fail
   refine hen.out.mono ?_
   rintro r V9 ⟨rfl, h9, hB9⟩
   replace hB := Hz.mk (hB.out.trans hB9)
   replace h9 := Hz.mk h9
   clear hen hB9
   go_wp2_with fail
   first | go_end0 | ((try simp only [Exit.inBlock, Exit.then]); refine bodyPost_ret (results_none rfl _ _ _) rfl ?_)
   exact ⟨rfl, h9.out.drop, hB.out⟩
 · have h1 : ¬ (65536 : Int) ≤ (A : Int) := by omega
   have hw : IntKind.u64.wrap (65536 - (A : Int)) = 65536 - (A : Int) := by rw [IntKind.wrap_u64]; omega
   have h2 : 65536 - (A : Int) < 8 := by omega
   go_wp2_with fail
   refine hen.out.mono ?_
   rintro r V9 ⟨rfl, h9, hB9⟩
   replace hB := Hz.mk (hB.out.trans hB9)
   replace h9 := Hz.mk h9
   clear hen hB9
   go_wp2_with fail
   first | go_end0 | ((try simp only [Exit.inBlock, Exit.then]); refine bodyPost_ret (results_none rfl _ _ _) rfl ?_)
   exact ⟨rfl, h9.out.drop, hB.out⟩
theorem dmf64 (B : Nat) (W0 : World) (b : Nat) (c : Dc) (P : Pr) (s : Fm) (og op : Nat) (l : List Ob) (ia ib ic : Nat) (imm : Int) (h : DIo B W0 b c P s og op l) (hb : ib < 16) (A : Nat) (hA : IntKind.u64.wrap (s.r ib + imm) = (A : Int)) (hf : 65536 - 16 < A) :
   Calls Tryz.prog 30 #[.pointer (some ⟨b, 0, none⟩), .agg #[.int .u8 64, .int .i64 ia, .int .i64 ib, .int .i64 ic, .int .u64 imm]] W0 fun x w' => x = .returned (.tuple #[]) ∧ DIo B w' b c P ({ s with e := 7, v := 0, f := 5 }) s.g s.p l ∧ Below B W0 w' := by
 have h2 := Hz.mk (h.new #[.int .u8 64, .int .i64 ia, .int .i64 ib, .int .i64 ic, .int .u64 imm] 52)
 clear h
 go_enter Tryz.func30, Tryz.ntmps30
 go_upto_region 1 with fail
 refine wp_world (fun W => DIo B W b c P s og op (boxOb W0.heap.size #[.int .u8 64, .int .i64 ia, .int .i64 ib, .int .i64 ic, .int .u64 imm] :: l) ∧ Below B W0 W) h2.out ?_
 rintro W ⟨h, hB⟩
 replace h := Hz.mk h
 replace hB := Hz.mk hB
 clear h2
 generalize W0.heap.size = kb at *
 have KS := xk2 64 ia ib ic imm kb
 have k0 : W.cell? ⟨kb, 0, none⟩ = some (.int .u8 64) := (h.out.there (boxOb kb #[.int .u8 64, .int .i64 ia, .int .i64 ib, .int .i64 ic, .int .u64 imm]) (.head _)).2.1 0
 have hbi : (ib : Int) < 16 := by omega
 have hkb : kb < W.heap.size := (h.out.there (boxOb kb #[.int .u8 64, .int .i64 ia, .int .i64 ib, .int .i64 ic, .int .u64 imm]) (.head _)).1
 have hne : ¬ W.heap.size = kb := by omega
 go_upto_region 2 with fail
 refine wp_world (fun X => DIo B X b c P s og op (boxOb kb #[.int .u8 64, .int .i64 ia, .int .i64 ib, .int .i64 ic, .int .u64 imm] :: l) ∧ Below B W0 X) ⟨h.out.gr ((Gr.refl W).alloc _).below, hB.out.trans (((Gr.refl W).alloc _).below.mono h.out.le)⟩ ?_
 clear h hB k0 hkb hne
 rintro V ⟨h, hB⟩
 replace hB := Hz.mk (hB.trans (((Gr.refl V).drew).below.mono h.le))
 replace h := Hz.mk (h.gr ((Gr.refl V).drew).below)
 have k2 : V.drew.cell? ⟨kb, 2, none⟩ = some (.int .i64 ib) := (h.out.there (boxOb kb #[.int .u8 64, .int .i64 ia, .int .i64 ib, .int .i64 ic, .int .u64 imm]) (.head _)).2.1 2
 have k4 : V.drew.cell? ⟨kb, 4, none⟩ = some (.int .u64 imm) := (h.out.there (boxOb kb #[.int .u8 64, .int .i64 ia, .int .i64 ib, .int .i64 ic, .int .u64 imm]) (.head _)).2.1 4
 have kr : V.drew.cell? ⟨b, 6 + ib, none⟩ = some (.int .u64 (s.r ib)) := h.out.hand.2.2 ib _ (regs_at s.r ib hb)
 refine wp_region_held_drew (S := (fun X => (X.cell? ⟨kb, 2, none⟩ = some (.int .i64 ib)) ∧ X.cell? ⟨kb, 4, none⟩ = some (.int .u64 imm) ∧ X.cell? ⟨b, 6 + ib, none⟩ = some (.int .u64 (s.r ib)))) (by kernel_rfl) (⟨k2, k4, kr⟩) (fun hHeld => ?_)
 refine xso 0 ?_ rfl ?_ (xso 1 ?_ rfl ?_ (xso 2 ?_ rfl ?_ (xso 3 ?_ rfl ?_ (xso 4 ?_ rfl ?_ (xso 5 ?_ rfl ?_ (xso 6 ?_ rfl ?_ (xso 7 ?_ rfl ?_ (xso 8 ?_ rfl ?_ ?_))))))))
 iterate 9 (rotate_left; focus ((try simp only [xap]); intro w hSw; (try dsimp only at hSw); go_simp; first | done | with_reducible rfl))
 try simp only [xap]
 refine xtk 9 (v := .int .u64 (A : Int)) rfl (Or.inl ⟨by rfl, ?_⟩) ?_
 · intro w hSw; (try dsimp only at hSw); go_simp; first | done | (rw [hA])
 try simp only [xap]
 refine xso 10 ?_ rfl ?_ ?_
 rotate_left
 · intro w hSw; (try dsimp only at hSw); go_simp; first | done | with_reducible rfl
 try simp only [xap]
 refine xdn ?_ _
 clear hHeld k2 k4 kr
 generalize V.drew = V1 at *
 have hen := Hz.mk (h.out.onBox (s' := { s with e := 7, v := 0, f := 5 }) (og' := s.g) (op' := s.p) ⟨rfl, rfl, rfl, rfl, rfl⟩ (fun q hb => dend_any b _ 7 0 5 V1 hb))
 by_cases hq : 65536 ≤ A
 · have h1 : (65536 : Int) ≤ (A : Int) := by omega
   go_wp2_with fail
   refine hen.out.mono ?_
   rintro r V9 ⟨rfl, h9, hB9⟩
   replace hB := Hz.mk (hB.out.trans hB9)
   replace h9 := Hz.mk h9
   clear hen hB9
   go_wp2_with fail
   first | go_end0 | ((try simp only [Exit.inBlock, Exit.then]); refine bodyPost_ret (results_none rfl _ _ _) rfl ?_)
   exact ⟨rfl, h9.out.drop, hB.out⟩
 · have h1 : ¬ (65536 : Int) ≤ (A : Int) := by omega
   have hw : IntKind.u64.wrap (65536 - (A : Int)) = 65536 - (A : Int) := by rw [IntKind.wrap_u64]; omega
   have h2 : 65536 - (A : Int) < 16 := by omega
   go_wp2_with fail
   refine hen.out.mono ?_
   rintro r V9 ⟨rfl, h9, hB9⟩
   replace hB := Hz.mk (hB.out.trans hB9)
   replace h9 := Hz.mk h9
   clear hen hB9
   go_wp2_with fail
   first | go_end0 | ((try simp only [Exit.inBlock, Exit.then]); refine bodyPost_ret (results_none rfl _ _ _) rfl ?_)
   exact ⟨rfl, h9.out.drop, hB.out⟩
theorem dmf65 (B : Nat) (W0 : World) (b : Nat) (c : Dc) (P : Pr) (s : Fm) (og op : Nat) (l : List Ob) (ia ib ic : Nat) (imm : Int) (h : DIo B W0 b c P s og op l) (hb : ib < 16) (A : Nat) (hA : IntKind.u64.wrap (s.r ib + imm) = (A : Int)) (hf : 65536 - 16 < A) :
   Calls Tryz.prog 30 #[.pointer (some ⟨b, 0, none⟩), .agg #[.int .u8 65, .int .i64 ia, .int .i64 ib, .int .i64 ic, .int .u64 imm]] W0 fun x w' => x = .returned (.tuple #[]) ∧ DIo B w' b c P ({ s with e := 7, v := 0, f := 5 }) s.g s.p l ∧ Below B W0 w' := by
 have h2 := Hz.mk (h.new #[.int .u8 65, .int .i64 ia, .int .i64 ib, .int .i64 ic, .int .u64 imm] 52)
 clear h
 go_enter Tryz.func30, Tryz.ntmps30
 go_upto_region 1 with fail
 refine wp_world (fun W => DIo B W b c P s og op (boxOb W0.heap.size #[.int .u8 65, .int .i64 ia, .int .i64 ib, .int .i64 ic, .int .u64 imm] :: l) ∧ Below B W0 W) h2.out ?_
 rintro W ⟨h, hB⟩
 replace h := Hz.mk h
 replace hB := Hz.mk hB
 clear h2
 generalize W0.heap.size = kb at *
 have KS := xk2 65 ia ib ic imm kb
 have k0 : W.cell? ⟨kb, 0, none⟩ = some (.int .u8 65) := (h.out.there (boxOb kb #[.int .u8 65, .int .i64 ia, .int .i64 ib, .int .i64 ic, .int .u64 imm]) (.head _)).2.1 0
 have hbi : (ib : Int) < 16 := by omega
 have hkb : kb < W.heap.size := (h.out.there (boxOb kb #[.int .u8 65, .int .i64 ia, .int .i64 ib, .int .i64 ic, .int .u64 imm]) (.head _)).1
 have hne : ¬ W.heap.size = kb := by omega
 go_upto_region 2 with fail
 refine wp_world (fun X => DIo B X b c P s og op (boxOb kb #[.int .u8 65, .int .i64 ia, .int .i64 ib, .int .i64 ic, .int .u64 imm] :: l) ∧ Below B W0 X) ⟨h.out.gr ((Gr.refl W).alloc _).below, hB.out.trans (((Gr.refl W).alloc _).below.mono h.out.le)⟩ ?_
 clear h hB k0 hkb hne
 rintro V ⟨h, hB⟩
 replace hB := Hz.mk (hB.trans (((Gr.refl V).drew).below.mono h.le))
 replace h := Hz.mk (h.gr ((Gr.refl V).drew).below)
 have k2 : V.drew.cell? ⟨kb, 2, none⟩ = some (.int .i64 ib) := (h.out.there (boxOb kb #[.int .u8 65, .int .i64 ia, .int .i64 ib, .int .i64 ic, .int .u64 imm]) (.head _)).2.1 2
 have k4 : V.drew.cell? ⟨kb, 4, none⟩ = some (.int .u64 imm) := (h.out.there (boxOb kb #[.int .u8 65, .int .i64 ia, .int .i64 ib, .int .i64 ic, .int .u64 imm]) (.head _)).2.1 4
 have kr : V.drew.cell? ⟨b, 6 + ib, none⟩ = some (.int .u64 (s.r ib)) := h.out.hand.2.2 ib _ (regs_at s.r ib hb)
 refine wp_region_held_drew (S := (fun X => (X.cell? ⟨kb, 2, none⟩ = some (.int .i64 ib)) ∧ X.cell? ⟨kb, 4, none⟩ = some (.int .u64 imm) ∧ X.cell? ⟨b, 6 + ib, none⟩ = some (.int .u64 (s.r ib)))) (by kernel_rfl) (⟨k2, k4, kr⟩) (fun hHeld => ?_)
 refine xso 0 ?_ rfl ?_ (xso 1 ?_ rfl ?_ (xso 2 ?_ rfl ?_ (xso 3 ?_ rfl ?_ (xso 4 ?_ rfl ?_ (xso 5 ?_ rfl ?_ (xso 6 ?_ rfl ?_ (xso 7 ?_ rfl ?_ (xso 8 ?_ rfl ?_ ?_))))))))
 iterate 9 (rotate_left; focus ((try simp only [xap]); intro w hSw; (try dsimp only at hSw); go_simp; first | done | with_reducible rfl))
 try simp only [xap]
 refine xtk 9 (v := .int .u64 (A : Int)) rfl (Or.inl ⟨by rfl, ?_⟩) ?_
 · intro w hSw; (try dsimp only at hSw); go_simp; first | done | (rw [hA])
 try simp only [xap]
 refine xso 10 ?_ rfl ?_ ?_
 rotate_left
 · intro w hSw; (try dsimp only at hSw); go_simp; first | done | with_reducible rfl
 try simp only [xap]
 refine xdn ?_ _
 clear hHeld k2 k4 kr
 generalize V.drew = V1 at *
 have hen := Hz.mk (h.out.onBox (s' := { s with e := 7, v := 0, f := 5 }) (og' := s.g) (op' := s.p) ⟨rfl, rfl, rfl, rfl, rfl⟩ (fun q hb => dend_any b _ 7 0 5 V1 hb))
 by_cases hq : 65536 ≤ A
 · have h1 : (65536 : Int) ≤ (A : Int) := by omega
   go_wp2_with fail
   refine hen.out.mono ?_
   rintro r V9 ⟨rfl, h9, hB9⟩
   replace hB := Hz.mk (hB.out.trans hB9)
   replace h9 := Hz.mk h9
   clear hen hB9
   go_wp2_with fail
   first | go_end0 | ((try simp only [Exit.inBlock, Exit.then]); refine bodyPost_ret (results_none rfl _ _ _) rfl ?_)
   exact ⟨rfl, h9.out.drop, hB.out⟩
 · have h1 : ¬ (65536 : Int) ≤ (A : Int) := by omega
   have hw : IntKind.u64.wrap (65536 - (A : Int)) = 65536 - (A : Int) := by rw [IntKind.wrap_u64]; omega
   have h2 : 65536 - (A : Int) < 16 := by omega
   go_wp2_with fail
   refine hen.out.mono ?_
   rintro r V9 ⟨rfl, h9, hB9⟩
   replace hB := Hz.mk (hB.out.trans hB9)
   replace h9 := Hz.mk h9
   clear hen hB9
   go_wp2_with fail
   first | go_end0 | ((try simp only [Exit.inBlock, Exit.then]); refine bodyPost_ret (results_none rfl _ _ _) rfl ?_)
   exact ⟨rfl, h9.out.drop, hB.out⟩
end Z
end Go.Proofs.YtmedafcmfbhjkaaGreat
