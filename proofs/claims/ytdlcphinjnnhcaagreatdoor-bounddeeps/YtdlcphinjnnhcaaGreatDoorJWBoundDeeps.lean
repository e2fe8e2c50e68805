import Derived.Test.YtdlcphinjnnhcaaGreatDoorJ25
import Derived.Test.YtdlcphinjnnhcaaGreatDoorJBeG
namespace Go.Proofs.YtdlcphinjnnhcaaGreatDoor
set_option maxRecDepth 100000
set_option maxHeartbeats 40000000
namespace Bd
open Go.RowKit

theorem walk_BoundDeeps (m : PImg) (ra ca ga : Option Addr) (rc cc gc : Nat) (gate : Int) (w : World) (ht : TabIn w) (hm : ImgIn w.heap.size w ra ca ga m) (hF : m.Fit) :
   Calls Tryz.prog 3 #[.agg #[.slice ra m.regs.length rc, .slice ca m.comps.length cc, .slice ga m.gates.length gc, .int .i64 m.depth], .int .i64 gate] w fun e w' => e = .returned (.bool true) ∧ Below w.heap.size w w' := by
 have hfit := hF.tw
 have hrng := hF.rng
 have hcl : m.comps.length ≤ 281474976710648 := by have := hfit.c; omega
 have hgl : m.gates.length ≤ maxG := hrng.gates.1
 unfold maxG at hgl
 have hbr := Hz.mk (bendP_rng hrng)
 have hH := Hz.mk (fun W (q : Below w.heap.size w W) => headB_any W (ht.below q ht.size))
 have hTw := Hz.mk (fun W (q : Below w.heap.size w W) => Q.Twin_any m ra ca ga rc cc gc W ((hm.below q).mono q.size) hfit)
 have hDp := Hz.mk (fun (z : PImg) (hz : z.Rng) W ra ca ga rc cc gc (g : Int) (q : Below w.heap.size w W) (h : ImgIn W.heap.size W ra ca ga z) => (show Calls Tryz.prog 7 #[.agg #[.slice ra z.regs.length rc, .slice ca z.comps.length cc, .slice ga z.gates.length gc, .int .i64 z.depth], .int .i64 g] W (fun e w' => e = .returned (.tuple #[.int .i64 (dpN z g), .bool (dpB z g)]) ∧ Below W.heap.size W w') from (Deep_any z ra ca ga rc cc gc g W (ht.below q ht.size) h hz).mono (by rintro e w' ⟨e1, e2⟩; exact ⟨by rw [e1, tupi_eq]; rfl, e2⟩)))
 have hDr := Hz.mk (fun (z : PImg) (hz : z.Rng) W ra ca ga rc cc gc (g : Int) (h : ImgIn W.heap.size W ra ca ga z) => (show Calls Tryz.prog 8 #[.agg #[.slice ra z.regs.length rc, .slice ca z.comps.length cc, .slice ga z.gates.length gc, .int .i64 z.depth], .int .i64 g] W (fun e w' => e = .returned (.tuple #[.int .i64 (dpN z g), .bool (dpB z g)]) ∧ Below W.heap.size W w') from (deepD_any z ra ca ga rc cc gc g W h hz).mono (by rintro e w' ⟨e1, e2⟩; exact ⟨by rw [e1, tupi_eq]; rfl, e2⟩)))
 have hS := Hz.mk (fun W kk kr kc kg lr lc lg (q : Below w.heap.size w W) (h : Q.TwIn kk kr kc kg W m lr lc lg) => Q.Still_any m ra ca ga rc cc gc W.heap.size kk kr kc kg lr lc lg W h ((hm.below q).mono q.size) (Nat.le_refl _) hfit)
 have hBd := Hz.mk (fun W kk kr kc kg lr lc lg (h : Q.TwIn kk kr kc kg W m lr lc lg) (hle : kr ≤ kk ∧ kc ≤ kk ∧ kg ≤ kk) => bend_any kk kr kc kg m lr lc lg W h hle hcl)
 have hmI := Hz.mk (fun W (q : Below w.heap.size w W) => (hm.below q).mono q.size)
 have hr1 := Hz.mk hrng
 clear hm ht hF hfit hrng hcl
 go_enter Tryz.func3, Tryz.ntmps3
 go_upto_region 1 with fail
 refine wp_world (fun W => At W w.heap.size #[.slice ra m.regs.length rc, .slice ca m.comps.length cc, .slice ga m.gates.length gc, .int .i64 m.depth] ∧ Below w.heap.size w W) ⟨At.new w _ _, bl_alloc _ _⟩ ?_
 rintro W ⟨A0, hB⟩
 replace A0 := Hz.mk A0
 replace hB := Hz.mk hB
 go_upto_region 2 with (go_at_call 5; refine (hH.out _ hB.out).mono ?_; rintro r W1 ⟨rfl, b1⟩; replace b1 := Hz.mk b1)
 have A1 := Hz.mk (at_past A0.out b1.out)
 have hB1 := Hz.mk (hB.out.trans (b1.out.mono hB.out.size))
 have c0 : W1.cell? ⟨w.heap.size, 0, none⟩ = some (.slice ra m.regs.length rc) := A1.out.2.1 0
 have c1 : W1.cell? ⟨w.heap.size, 1, none⟩ = some (.slice ca m.comps.length cc) := A1.out.2.1 1
 have c2 : W1.cell? ⟨w.heap.size, 2, none⟩ = some (.slice ga m.gates.length gc) := A1.out.2.1 2
 have c3 : W1.cell? ⟨w.heap.size, 3, none⟩ = some (.int .i64 m.depth) := A1.out.2.1 3
 have hW1 := A1.out.1
 clear A0 hB b1 hH
 go_upto_region 3 with (go_at_call 6; refine (hTw.out _ hB1.out).mono ?_; rintro r W2 ⟨rfl, G2, lr, lc, lg, hT⟩; have b2 := Hz.mk G2.below; have i2 := Hz.mk hT; have hle : (W1.heap.size + 1 + 1 + 1 ≤ W1.heap.size + 1 + 1 + 1 + 1 + 1 ∧ W1.heap.size + 1 + 1 + 1 + 1 ≤ W1.heap.size + 1 + 1 + 1 + 1 + 1 ∧ W1.heap.size + 1 + 1 + 1 + 1 + 1 ≤ W1.heap.size + 1 + 1 + 1 + 1 + 1) ∧ w.heap.size < W1.heap.size + 1 + 1 + 1 + 1 + 1 := (by omega); clear G2 hT; generalize W1.heap.size + 1 + 1 + 1 + 1 + 1 = kg at *; generalize W1.heap.size + 1 + 1 + 1 + 1 = kc at *; generalize W1.heap.size + 1 + 1 + 1 = kr at *; replace hle := Hz.mk hle)
 clear c0 c1 c2 c3 hTw hW1
 have A2 := Hz.mk (at_past A1.out b2.out)
 have hB2 := Hz.mk (hB1.out.trans (b2.out.mono hB1.out.size))
 have hlt := Hz.mk (code_lt i2.out)
 refine wp_world (fun X => At X W2.heap.size #[.slice (some ⟨kr, 0, none⟩) m.regs.length (m.regs.length + 8), .slice (some ⟨kc, 0, none⟩) m.comps.length (m.comps.length + 8), .slice (some ⟨kg, 0, none⟩) m.gates.length (m.gates.length + 8), .int .i64 m.depth] ∧ Below W2.heap.size W2 X) ⟨At.new W2 _ _, bl_alloc _ _⟩ ?_
 rintro X ⟨AT, b3⟩
 have st : Hz (Lw w W2.heap.size kg kr kc kg m m ra ca ga rc cc gc lr lc lg X) := Hz.mk ⟨AT, at_past A2.out b3, twin_below i2.out b3, hB2.out.trans (b3.mono hB2.out.size)⟩
 clear AT b3 A2 hB2 A1 hB1 b2 i2
 generalize W2.heap.size = kt at *
 go_upto_region 4 with fail
 go_loopw [7] (fun iv wr => ∃ j : Nat, iv = .int .i64 ((j : Int) - 2) ∧ j ≤ m.gates.length + 3 ∧ Hz (Lw w kt kg kr kc kg m m ra ca ga rc cc gc lr lc lg wr)) (fun iv _ => m.gates.length + 3 - (intOf iv + 2).toNat)
 case atStart => exact ⟨0, rfl, by omega, st⟩
 case round =>
   clear st
   obtain ⟨j, rfl, hj, ⟨Lw0⟩⟩ := hrel
   obtain ⟨t0, t1, t2, t3⟩ := Lw0.ts
   obtain ⟨c0, c1, c2, c3⟩ := Lw0.ms
   by_cases hlt2 : (j : Int) - 2 ≤ m.gates.length
   · have hi2 : ¬ (m.gates.length : Int) < (j : Int) - 2 := by omega
     have hcl := Hz.mk (hDp.out m hr1.out wr _ _ _ (m.regs.length + 8) (m.comps.length + 8) (m.gates.length + 8) ((j : Int) - 2) Lw0.b Lw0.img)
     have hij : Hz (IntKind.i64.wrap ((j : Int) - 2 + 1) = ((j + 1 : Nat) : Int) - 2) := Hz.mk (by rw [IntKind.wrap_i64]; omega)
     have hij2 : Hz (wrap64 ((j : Int) - 2 + 1) = ((j + 1 : Nat) : Int) - 2) := Hz.mk (by unfold wrap64; omega)
     have hjn : Hz ((j : Int) - 2 = (j : Int) - 2) := Hz.mk rfl
     generalize hjj : (j : Int) - 2 = g at *
     replace hjj := Hz.mk hjj
     replace Lw0 := Hz.mk Lw0
     go_upto_region 7 with (go_at_call 7; refine hcl.out.mono ?_; rintro r w1 ⟨rfl, b1⟩; replace b1 := Hz.mk b1)
     have Lw1 := Hz.mk (Lw0.out.past b1.out)
     clear t0 t1 t2 t3 c0 c1 c2 c3 Lw0 b1 hcl
     obtain ⟨c0, c1, c2, c3⟩ := Lw1.out.ms
     have hcl := Hz.mk (hDr.out m hr1.out w1 _ _ _ rc cc gc g (hmI.out w1 Lw1.out.b))
     go_upto_region 8 with (go_at_call 8; refine hcl.out.mono ?_; rintro r w2 ⟨rfl, b2⟩; replace b2 := Hz.mk b2)
     have Lw2 := Hz.mk (Lw1.out.past b2.out)
     clear c0 c1 c2 c3 Lw1 b2 hcl
     replace hij := hij.out
     replace hij2 := hij2.out
     go_wp2_with fail
     clear hij hij2
     go_roundw
     case rel => exact ⟨j + 1, by rfl, by have := hjj.out; omega, Lw2⟩
     case measure => simp only [intOf]; have := hjj.out; omega
   · have hi2 : (m.gates.length : Int) < (j : Int) - 2 := by omega
     have hcl := Hz.mk (hDp.out m hr1.out wr _ _ _ (m.regs.length + 8) (m.comps.length + 8) (m.gates.length + 8) gate Lw0.b Lw0.img)
     replace Lw0 := Hz.mk Lw0
     go_upto_region 11 with (go_at_call 7; refine hcl.out.mono ?_; rintro r w1 ⟨rfl, b1⟩; replace b1 := Hz.mk b1)
     have Lw1 := Hz.mk (Lw0.out.past b1.out)
     clear t0 t1 t2 t3 c0 c1 c2 c3 Lw0 b1 hcl hi2 hlt2 hj
     obtain ⟨c0, c1, c2, c3⟩ := Lw1.out.ms
     have hcl := Hz.mk (hDr.out m hr1.out w1 _ _ _ rc cc gc gate (hmI.out w1 Lw1.out.b))
     go_upto_region 12 with (go_at_call 8; refine hcl.out.mono ?_; rintro r w2 ⟨rfl, b2⟩; replace b2 := Hz.mk b2)
     have Lw2 := Hz.mk (Lw1.out.past b2.out)
     clear c0 c1 c2 c3 Lw1 b2 hcl
     obtain ⟨t0, t1, t2, t3⟩ := Lw2.out.ts
     obtain ⟨c0, c1, c2, c3⟩ := Lw2.out.ms
     have hcl := Hz.mk (hS.out w2 _ _ _ _ _ _ _ Lw2.out.b Lw2.out.i)
     go_upto_region 13 with (go_at_call 9; refine hcl.out.mono ?_; rintro r w3 ⟨rfl, g3⟩; have b3 := Hz.mk g3.below; clear g3)
     have Lw3 := Hz.mk (Lw2.out.past b3.out)
     clear t0 t1 t2 t3 c0 c1 c2 c3 Lw2 b3 hcl
     obtain ⟨t0, t1, t2, t3⟩ := Lw3.out.ts
     have hcl := Hz.mk (hBd.out w3 _ _ _ _ _ _ _ Lw3.out.i hle.out.1)
     go_upto_region 14 with (go_at_call 10; refine hcl.out.mono ?_; rintro r w4 ⟨rfl, i4, p4⟩; have Lw4 := Hz.mk (Lw3.out.bent hle.out.2 hlt.out i4 p4); clear i4 p4)
     clear t0 t1 t2 t3 Lw3 hcl
     go_upto_region 15 with fail
     go_loopw [17] (fun iv wr => ∃ j : Nat, iv = .int .i64 j ∧ j ≤ m.gates.length ∧ Hz (Lw w kt kg kr kc kg (bendP m) m ra ca ga rc cc gc lr lc lg wr)) (fun iv _ => m.gates.length - (intOf iv).toNat)
     case atStart => exact ⟨0, rfl, by omega, Lw4⟩
     case round =>
       clear Lw4
       obtain ⟨j, rfl, hj, ⟨Lw0⟩⟩ := hrel
       obtain ⟨t0, t1, t2, t3⟩ := Lw0.ts
       obtain ⟨c0, c1, c2, c3⟩ := Lw0.ms
       by_cases hlt2 : j < m.gates.length
       · have hi2 : (j : Int) < m.gates.length := by omega
         have hcl := Hz.mk (hDp.out (bendP m) hbr.out wr _ _ _ ((bendP m).regs.length + 8) ((bendP m).comps.length + 8) ((bendP m).gates.length + 8) j Lw0.b Lw0.img)
         have hij : Hz (IntKind.i64.wrap ((j : Int) + 1) = ((j + 1 : Nat) : Int)) := Hz.mk (by rw [IntKind.wrap_i64]; omega)
         have hij2 : Hz (wrap64 ((j : Int) + 1) = ((j + 1 : Nat) : Int)) := Hz.mk (by unfold wrap64; omega)
         replace Lw0 := Hz.mk Lw0
         go_upto_region 18 with (go_at_call 7; refine hcl.out.mono ?_; rintro r w5 ⟨rfl, b5⟩; replace b5 := Hz.mk b5)
         have Lw5 := Hz.mk (Lw0.out.past b5.out)
         clear t0 t1 t2 t3 c0 c1 c2 c3 Lw0 b5 hcl
         obtain ⟨t0, t1, t2, t3⟩ := Lw5.out.ts
         have hcl := Hz.mk (hDr.out (bendP m) hbr.out w5 _ _ _ ((bendP m).regs.length + 8) ((bendP m).comps.length + 8) ((bendP m).gates.length + 8) j Lw5.out.img)
         go_upto_region 19 with (go_at_call 8; refine hcl.out.mono ?_; rintro r w6 ⟨rfl, b6⟩; replace b6 := Hz.mk b6)
         have Lw6 := Hz.mk (Lw5.out.past b6.out)
         clear t0 t1 t2 t3 Lw5 b6 hcl
         replace hij := hij.out
         replace hij2 := hij2.out
         go_wp2_with fail
         clear hij hij2
         go_roundw
         case rel => exact ⟨j + 1, by first | rfl | simp, by omega, Lw6⟩
         case measure => simp only [intOf]; omega
       · have hi2 : ¬ (j : Int) < m.gates.length := by omega
         replace Lw0 := Hz.mk Lw0
         go_wp2_with fail
         go_ret
         exact ⟨by simp, Lw0.out.b⟩
end Bd
end Go.Proofs.YtdlcphinjnnhcaaGreatDoor
