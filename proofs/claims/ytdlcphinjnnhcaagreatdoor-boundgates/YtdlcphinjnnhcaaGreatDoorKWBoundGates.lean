import Derived.Test.YtdlcphinjnnhcaaGreatDoorK26
import Derived.Test.YtdlcphinjnnhcaaGreatDoorKBeG
namespace Go.Proofs.YtdlcphinjnnhcaaGreatDoor
set_option maxRecDepth 100000
set_option maxHeartbeats 40000000
namespace Bd
open Go.RowKit

noncomputable def gtR (z : PImg) (g : Int) : Option Cst := if hgB z g = true then ev (nxG z) (ctF z) (List.range z.gates.length) g.toNat else none
def oS (r : Option Cst) : Int := match r with | some v => v.s | none => 0
def oC (r : Option Cst) : Int := match r with | some v => v.c | none => 0
def oI (r : Option Cst) : Int := match r with | some v => v.i | none => 0
noncomputable def gB (z : PImg) (g : Int) : Bool := (gtR z g).isSome
noncomputable def gS (z : PImg) (g : Int) : Int := oS (gtR z g)
noncomputable def gC (z : PImg) (g : Int) : Int := oC (gtR z g)
noncomputable def gI (z : PImg) (g : Int) : Int := oI (gtR z g)
theorem gtV_eq (r : Option Cst) : gtV r = .agg #[.bool r.isSome, .int .u64 (oS r), .int .u64 (oC r), .int .u64 (oI r)] := by cases r <;> rfl
theorem walk_BoundGates (m : PImg) (ra ca ga : Option Addr) (rc cc gc : Nat) (gate : Int) (w : World) (ht : TabIn w) (hm : ImgIn w.heap.size w ra ca ga m) (hF : m.Fit) :
   Calls Tryz.prog 4 #[.agg #[.slice ra m.regs.length rc, .slice ca m.comps.length cc, .slice ga m.gates.length gc, .int .i64 m.depth], .int .i64 gate] w fun e w' => e = .returned (.bool true) ∧ Below w.heap.size w w' := by
 have hfit := hF.tw
 have hrng := hF.rng
 have hcl : m.comps.length ≤ 281474976710648 := by have := hfit.c; omega
 have hgl : m.gates.length ≤ maxG := hrng.gates.1
 unfold maxG at hgl
 have hbr := Hz.mk (bendP_rng hrng)
 have hH := Hz.mk (fun W (q : Below w.heap.size w W) => headB_any W (ht.below q ht.size))
 have hTw := Hz.mk (fun W (q : Below w.heap.size w W) => Q.Twin_any m ra ca ga rc cc gc W ((hm.below q).mono q.size) hfit)
 have hGp := Hz.mk (fun (z : PImg) (hz : z.Rng) W ra ca ga rc cc gc (g : Int) (q : Below w.heap.size w W) (h : ImgIn W.heap.size W ra ca ga z) => (show Calls Tryz.prog 11 #[.agg #[.slice ra z.regs.length rc, .slice ca z.comps.length cc, .slice ga z.gates.length gc, .int .i64 z.depth], .int .i64 g] W (fun e w' => e = .returned (.agg #[.bool (gB z g), .int .u64 (gS z g), .int .u64 (gC z g), .int .u64 (gI z g)]) ∧ Below W.heap.size W w') from (Gate_any z ra ca ga rc cc gc g W (ht.below q ht.size) h hz).mono (by rintro e w' ⟨e1, e2⟩; exact ⟨by rw [e1, gtV_eq]; rfl, e2⟩)))
 have hGr := Hz.mk (fun (z : PImg) (hz : z.Rng) W ra ca ga rc cc gc (g : Int) (h : ImgIn W.heap.size W ra ca ga z) => (show Calls Tryz.prog 12 #[.agg #[.slice ra z.regs.length rc, .slice ca z.comps.length cc, .slice ga z.gates.length gc, .int .i64 z.depth], .int .i64 g] W (fun e w' => e = .returned (.agg #[.bool (gB z g), .int .u64 (gS z g), .int .u64 (gC z g), .int .u64 (gI z g)]) ∧ Below W.heap.size W w') from (gateD_any z ra ca ga rc cc gc g W h hz).mono (by rintro e w' ⟨e1, e2⟩; exact ⟨by rw [e1, gtV_eq]; rfl, e2⟩)))
 have hS := Hz.mk (fun W kk kr kc kg lr lc lg (q : Below w.heap.size w W) (h : Q.TwIn kk kr kc kg W m lr lc lg) => Q.Still_any m ra ca ga rc cc gc W.heap.size kk kr kc kg lr lc lg W h ((hm.below q).mono q.size) (Nat.le_refl _) hfit)
 have hBd := Hz.mk (fun W kk kr kc kg lr lc lg (h : Q.TwIn kk kr kc kg W m lr lc lg) (hle : kr ≤ kk ∧ kc ≤ kk ∧ kg ≤ kk) => bend_any kk kr kc kg m lr lc lg W h hle hcl)
 have hmI := Hz.mk (fun W (q : Below w.heap.size w W) => (hm.below q).mono q.size)
 have hr1 := Hz.mk hrng
 clear hm ht hF hfit hrng hcl
 go_enter Tryz.func4, Tryz.ntmps4
 go_upto_region 1 with fail
 refine wp_world (fun W => At W w.heap.size #[.slice ra m.regs.length rc, .slice ca m.comps.length cc, .slice ga m.gates.length gc, .int .i64 m.depth] ∧ Below w.heap.size w W) ⟨At.new w _ _, bl_alloc _ _⟩ ?_
 rintro W ⟨A0, hB⟩
 replace A0 := Hz.mk A0
 replace hB := Hz.mk hB
 go_upto_region 2 with (go_at_call 5; refine (hH.out _ hB.out).mono ?_; rintro r W1 ⟨rfl, b1⟩; replace b1 := Hz.mk b1)
 have A1 := Hz.mk (at_past A0.out b1.out)
 have hB1 := Hz.mk (hB.out.trans (b1.out.mono hB.out.size))
 have c0 : W1.cell? ⟨w.heap.size, 0, none⟩ = some (.slice ra m.regs.length rc) := A1.out.2.1 0
 have c1 : W1.cell? ⟨w.heap.size, 1, none⟩ = some (.slice ca m.comps.length cc) := A1.out.2.1 1
 have c2 : W1.cell? ⟨w.heap.size, 2, none⟩ = some (.slice ga m.gates.length gc) := A1.out.2.1 2
 have c3 : W1.cell? ⟨w.heap.size, 3, none⟩ = some (.int .i64 m.depth) := A1.out.2.1 3
 have hW1 := A1.out.1
 clear A0 hB b1 hH
 go_upto_region 3 with (go_at_call 6; refine (hTw.out _ hB1.out).mono ?_; rintro r W2 ⟨rfl, G2, lr, lc, lg, hT⟩; have b2 := Hz.mk G2.below; have i2 := Hz.mk hT; have hle : (W1.heap.size + 1 + 1 + 1 ≤ W1.heap.size + 1 + 1 + 1 + 1 + 1 ∧ W1.heap.size + 1 + 1 + 1 + 1 ≤ W1.heap.size + 1 + 1 + 1 + 1 + 1 ∧ W1.heap.size + 1 + 1 + 1 + 1 + 1 ≤ W1.heap.size + 1 + 1 + 1 + 1 + 1) ∧ w.heap.size < W1.heap.size + 1 + 1 + 1 + 1 + 1 := (by omega); clear G2 hT; generalize W1.heap.size + 1 + 1 + 1 + 1 + 1 = kg at *; generalize W1.heap.size + 1 + 1 + 1 + 1 = kc at *; generalize W1.heap.size + 1 + 1 + 1 = kr at *; replace hle := Hz.mk hle)
 clear c0 c1 c2 c3 hTw hW1
 have A2 := Hz.mk (at_past A1.out b2.out)
 have hB2 := Hz.mk (hB1.out.trans (b2.out.mono hB1.out.size))
 have hlt := Hz.mk (code_lt i2.out)
 refine wp_world (fun X => At X W2.heap.size #[.slice (some ⟨kr, 0, none⟩) m.regs.length (m.regs.length + 8), .slice (some ⟨kc, 0, none⟩) m.comps.length (m.comps.length + 8), .slice (some ⟨kg, 0, none⟩) m.gates.length (m.gates.length + 8), .int .i64 m.depth] ∧ Below W2.heap.size W2 X) ⟨At.new W2 _ _, bl_alloc _ _⟩ ?_
 rintro X ⟨AT, b3⟩
 have st : Hz (Lw w W2.heap.size kg kr kc kg m m ra ca ga rc cc gc lr lc lg X) := Hz.mk ⟨AT, at_past A2.out b3, twin_below i2.out b3, hB2.out.trans (b3.mono hB2.out.size)⟩
 clear AT b3 A2 hB2 A1 hB1 b2 i2
 generalize W2.heap.size = kt at *
 go_upto_region 4 with fail
 go_loopw [7] (fun iv wr => ∃ j : Nat, iv = .int .i64 ((j : Int) - 2) ∧ j ≤ m.gates.length + 3 ∧ Hz (Lw w kt kg kr kc kg m m ra ca ga rc cc gc lr lc lg wr)) (fun iv _ => m.gates.length + 3 - (intOf iv + 2).toNat)
 case atStart => exact ⟨0, rfl, by omega, st⟩
 case round =>
   clear st
   obtain ⟨j, rfl, hj, ⟨Lw0⟩⟩ := hrel
   obtain ⟨t0, t1, t2, t3⟩ := Lw0.ts
   obtain ⟨c0, c1, c2, c3⟩ := Lw0.ms
   by_cases hlt2 : (j : Int) - 2 ≤ m.gates.length
   · have hi2 : ¬ (m.gates.length : Int) < (j : Int) - 2 := by omega
     have hcl := Hz.mk (hGp.out m hr1.out wr _ _ _ (m.regs.length + 8) (m.comps.length + 8) (m.gates.length + 8) ((j : Int) - 2) Lw0.b Lw0.img)
     have hij : Hz (IntKind.i64.wrap ((j : Int) - 2 + 1) = ((j + 1 : Nat) : Int) - 2) := Hz.mk (by rw [IntKind.wrap_i64]; omega)
     have hij2 : Hz (wrap64 ((j : Int) - 2 + 1) = ((j + 1 : Nat) : Int) - 2) := Hz.mk (by unfold wrap64; omega)
     generalize hjj : (j : Int) - 2 = g at *
     replace hjj := Hz.mk hjj
     replace Lw0 := Hz.mk Lw0
     go_upto_region 7 with (go_at_call 11; refine hcl.out.mono ?_; rintro r w1 ⟨rfl, b1⟩; replace b1 := Hz.mk b1)
     have Lw1 := Hz.mk (Lw0.out.past b1.out)
     clear t0 t1 t2 t3 c0 c1 c2 c3 Lw0 b1 hcl
     have hktX1 : kt < w1.heap.size := Lw1.out.t.1
     refine wp_world (fun X => At X w1.heap.size #[.bool (gB m g), .int .u64 (gS m g), .int .u64 (gC m g), .int .u64 (gI m g)] ∧ Below w1.heap.size w1 X) ⟨by first | exact At.new w1 _ _ | simpa using At.new w1 #[.bool (gB m g), .int .u64 (gS m g), .int .u64 (gC m g), .int .u64 (gI m g)] _, (by (repeat (first | with_reducible assumption | with_reducible exact Below.refl _ _ | with_reducible refine Below.alloc ?_ (by first | omega | (simp <;> omega)) _ | with_reducible refine Below.setCell ?_ (by first | omega | (simp <;> omega)) _ | with_reducible refine Below.drew ?_)))⟩ ?_
     rintro X1 ⟨aX1, bX1⟩
     have Lw1 := Hz.mk (Lw1.out.past bX1)
     have hkX1 : w1.heap.size < X1.heap.size := aX1.1
     clear bX1
     generalize w1.heap.size = kx at *
     replace aX1 := Hz.mk aX1
     have KS := Hz.mk (fun Y (q : Below X1.heap.size X1 Y) => (show Y.cell? ⟨kx, 0, none⟩ = some (.bool (gB m g)) ∧ Y.cell? ⟨kx, 1, none⟩ = some (.int .u64 (gS m g)) ∧ Y.cell? ⟨kx, 2, none⟩ = some (.int .u64 (gC m g)) ∧ Y.cell? ⟨kx, 3, none⟩ = some (.int .u64 (gI m g)) ∧ Y.cell? ⟨w.heap.size, 0, none⟩ = some (.slice ra m.regs.length rc) ∧ Y.cell? ⟨w.heap.size, 1, none⟩ = some (.slice ca m.comps.length cc) ∧ Y.cell? ⟨w.heap.size, 2, none⟩ = some (.slice ga m.gates.length gc) ∧ Y.cell? ⟨w.heap.size, 3, none⟩ = some (.int .i64 m.depth) from by
       have a := (at_past aX1.out q).2.1
       have b := (Lw1.out.past q).m.2.1
       exact ⟨a 0, a 1, a 2, a 3, b 0, b 1, b 2, b 3⟩))
     have hcl := Hz.mk (fun Y (q : Below X1.heap.size X1 Y) => hGr.out m hr1.out Y _ _ _ rc cc gc g (hmI.out Y (Lw1.out.past q).b))
     go_region_held3 (fun X => X.cell? ⟨kx, 0, none⟩ = some (.bool (gB m g)) ∧ X.cell? ⟨kx, 1, none⟩ = some (.int .u64 (gS m g)) ∧ X.cell? ⟨kx, 2, none⟩ = some (.int .u64 (gC m g)) ∧ X.cell? ⟨kx, 3, none⟩ = some (.int .u64 (gI m g)) ∧ X.cell? ⟨w.heap.size, 0, none⟩ = some (.slice ra m.regs.length rc) ∧ X.cell? ⟨w.heap.size, 1, none⟩ = some (.slice ca m.comps.length cc) ∧ X.cell? ⟨w.heap.size, 2, none⟩ = some (.slice ga m.gates.length gc) ∧ X.cell? ⟨w.heap.size, 3, none⟩ = some (.int .i64 m.depth)) ((refine KS.out _ ?_; (repeat (first | with_reducible assumption | with_reducible exact Below.refl _ _ | with_reducible refine Below.alloc ?_ (by first | omega | (simp <;> omega)) _ | with_reducible refine Below.setCell ?_ (by first | omega | (simp <;> omega)) _ | with_reducible refine Below.drew ?_)))) (first | (go_at_call 12; refine (hcl.out _ (by (repeat (first | with_reducible assumption | with_reducible exact Below.refl _ _ | with_reducible refine Below.alloc ?_ (by first | omega | (simp <;> omega)) _ | with_reducible refine Below.setCell ?_ (by first | omega | (simp <;> omega)) _ | with_reducible refine Below.drew ?_)))).mono ?_; rintro r w9 ⟨rfl, b9⟩; have Q9 : Below X1.heap.size X1 w9 := Below.trans (by (repeat (first | with_reducible assumption | with_reducible exact Below.refl _ _ | with_reducible refine Below.alloc ?_ (by first | omega | (simp <;> omega)) _ | with_reducible refine Below.setCell ?_ (by first | omega | (simp <;> omega)) _ | with_reducible refine Below.drew ?_))) (b9.mono (by simp <;> omega)); have Q9s := Q9.size; clear b9) | fail)
     all_goals
       have QE : Below X1.heap.size X1 w9 := Q9
       have Lw2 := Hz.mk (Lw1.out.past QE)
       clear KS hcl aX1 Lw1 Q9 QE
       replace hij := hij.out
       replace hij2 := hij2.out
       go_wp2_with fail
       clear hij hij2
       go_roundw
       case rel => exact ⟨j + 1, by rfl, by have := hjj.out; omega, Lw2⟩
       case measure => simp only [intOf]; have := hjj.out; omega
   · have hi2 : (m.gates.length : Int) < (j : Int) - 2 := by omega
     have hcl := Hz.mk (hGp.out m hr1.out wr _ _ _ (m.regs.length + 8) (m.comps.length + 8) (m.gates.length + 8) gate Lw0.b Lw0.img)
     replace Lw0 := Hz.mk Lw0
     go_upto_region 10 with (go_at_call 11; refine hcl.out.mono ?_; rintro r w1 ⟨rfl, b1⟩; replace b1 := Hz.mk b1)
     have Lw1 := Hz.mk (Lw0.out.past b1.out)
     clear t0 t1 t2 t3 c0 c1 c2 c3 Lw0 b1 hcl hi2 hlt2 hj
     have hktX1 : kt < w1.heap.size := Lw1.out.t.1
     refine wp_world (fun X => At X w1.heap.size #[.bool (gB m gate), .int .u64 (gS m gate), .int .u64 (gC m gate), .int .u64 (gI m gate)] ∧ Below w1.heap.size w1 X) ⟨by first | exact At.new w1 _ _ | simpa using At.new w1 #[.bool (gB m gate), .int .u64 (gS m gate), .int .u64 (gC m gate), .int .u64 (gI m gate)] _, (by (repeat (first | with_reducible assumption | with_reducible exact Below.refl _ _ | with_reducible refine Below.alloc ?_ (by first | omega | (simp <;> omega)) _ | with_reducible refine Below.setCell ?_ (by first | omega | (simp <;> omega)) _ | with_reducible refine Below.drew ?_)))⟩ ?_
     rintro X1 ⟨aX1, bX1⟩
     have Lw1 := Hz.mk (Lw1.out.past bX1)
     have hkX1 : w1.heap.size < X1.heap.size := aX1.1
     clear bX1
     generalize w1.heap.size = kx at *
     replace aX1 := Hz.mk aX1
     obtain ⟨t0, t1, t2, t3⟩ := Lw1.out.ts
     obtain ⟨c0, c1, c2, c3⟩ := Lw1.out.ms
     have hcl := Hz.mk (hS.out X1 _ _ _ _ _ _ _ Lw1.out.b Lw1.out.i)
     go_upto_region 11 with (go_at_call 9; refine hcl.out.mono ?_; rintro r w3 ⟨rfl, g3⟩; have b3 := Hz.mk g3.below; clear g3)
     have Lw3 := Hz.mk (Lw1.out.past b3.out)
     have a3 := Hz.mk (at_past aX1.out b3.out)
     clear t0 t1 t2 t3 c0 c1 c2 c3 Lw1 b3 hcl aX1
     obtain ⟨t0, t1, t2, t3⟩ := Lw3.out.ts
     have hcl := Hz.mk (hBd.out w3 _ _ _ _ _ _ _ Lw3.out.i hle.out.1)
     go_upto_region 12 with (go_at_call 10; refine hcl.out.mono ?_; rintro r w4 ⟨rfl, i4, p4⟩; have Lw4 := Hz.mk (Lw3.out.bent hle.out.2 hlt.out i4 p4); have a4 := Hz.mk (at_keep a3.out p4 (fun q => by have := hlt.out _ q; omega)); clear i4 p4)
     clear t0 t1 t2 t3 Lw3 hcl a3
     have sL : Hz (Lw w kt kg kr kc kg (bendP m) m ra ca ga rc cc gc lr lc lg w4 ∧ At w4 kx #[.bool (gB m gate), .int .u64 (gS m gate), .int .u64 (gC m gate), .int .u64 (gI m gate)]) := Hz.mk ⟨Lw4.out, a4.out⟩
     clear Lw4 a4
     go_upto_region 13 with fail
     go_loopw [11] (fun iv wr => ∃ j : Nat, iv = .int .i64 j ∧ j ≤ m.gates.length ∧ Hz (Lw w kt kg kr kc kg (bendP m) m ra ca ga rc cc gc lr lc lg wr ∧ At wr kx #[.bool (gB m gate), .int .u64 (gS m gate), .int .u64 (gC m gate), .int .u64 (gI m gate)])) (fun iv _ => m.gates.length - (intOf iv).toNat)
     case atStart => exact ⟨0, rfl, by omega, sL⟩
     case round =>
       clear sL
       obtain ⟨j, rfl, hj, ⟨Lw0, aK⟩⟩ := hrel
       obtain ⟨t0, t1, t2, t3⟩ := Lw0.ts
       obtain ⟨c0, c1, c2, c3⟩ := Lw0.ms
       by_cases hlt2 : j < m.gates.length
       · have hi2 : (j : Int) < m.gates.length := by omega
         have hcl := Hz.mk (hGp.out (bendP m) hbr.out wr _ _ _ ((bendP m).regs.length + 8) ((bendP m).comps.length + 8) ((bendP m).gates.length + 8) j Lw0.b Lw0.img)
         have hij : Hz (IntKind.i64.wrap ((j : Int) + 1) = ((j + 1 : Nat) : Int)) := Hz.mk (by rw [IntKind.wrap_i64]; omega)
         have hij2 : Hz (wrap64 ((j : Int) + 1) = ((j + 1 : Nat) : Int)) := Hz.mk (by unfold wrap64; omega)
         replace Lw0 := Hz.mk Lw0
         replace aK := Hz.mk aK
         go_upto_region 16 with (go_at_call 11; refine hcl.out.mono ?_; rintro r w5 ⟨rfl, b5⟩; replace b5 := Hz.mk b5)
         have Lw5 := Hz.mk (Lw0.out.past b5.out)
         have aK5 := Hz.mk (at_past aK.out b5.out)
         clear t0 t1 t2 t3 c0 c1 c2 c3 Lw0 b5 hcl aK
         generalize hjz : (j : Int) = jz at *
         replace hjz := Hz.mk hjz
         refine wp_world (fun X => At X w5.heap.size #[.bool (gB (bendP m) jz), .int .u64 (gS (bendP m) jz), .int .u64 (gC (bendP m) jz), .int .u64 (gI (bendP m) jz)] ∧ Below w5.heap.size w5 X) ⟨by first | exact At.new w5 _ _ | simpa using At.new w5 #[.bool (gB (bendP m) jz), .int .u64 (gS (bendP m) jz), .int .u64 (gC (bendP m) jz), .int .u64 (gI (bendP m) jz)] _, (by (repeat (first | with_reducible assumption | with_reducible exact Below.refl _ _ | with_reducible refine Below.alloc ?_ (by first | omega | (simp <;> omega)) _ | with_reducible refine Below.setCell ?_ (by first | omega | (simp <;> omega)) _ | with_reducible refine Below.drew ?_)))⟩ ?_
         rintro X5 ⟨aX5, bX5⟩
         have Lw6 := Hz.mk (Lw5.out.past bX5)
         have aK6 := Hz.mk (at_past aK5.out bX5)
         have hkX5 : w5.heap.size < X5.heap.size := aX5.1
         clear bX5 Lw5 aK5
         generalize w5.heap.size = ky at *
         replace aX5 := Hz.mk aX5
         have KS := Hz.mk (fun Y (q : Below X5.heap.size X5 Y) => (show Y.cell? ⟨ky, 0, none⟩ = some (.bool (gB (bendP m) jz)) ∧ Y.cell? ⟨ky, 1, none⟩ = some (.int .u64 (gS (bendP m) jz)) ∧ Y.cell? ⟨ky, 2, none⟩ = some (.int .u64 (gC (bendP m) jz)) ∧ Y.cell? ⟨ky, 3, none⟩ = some (.int .u64 (gI (bendP m) jz)) ∧ Y.cell? ⟨kt, 0, none⟩ = some (.slice (some ⟨kr, 0, none⟩) (bendP m).regs.length ((bendP m).regs.length + 8)) ∧ Y.cell? ⟨kt, 1, none⟩ = some (.slice (some ⟨kc, 0, none⟩) (bendP m).comps.length ((bendP m).comps.length + 8)) ∧ Y.cell? ⟨kt, 2, none⟩ = some (.slice (some ⟨kg, 0, none⟩) (bendP m).gates.length ((bendP m).gates.length + 8)) ∧ Y.cell? ⟨kt, 3, none⟩ = some (.int .i64 (bendP m).depth) from by
           have a := (at_past aX5.out q).2.1
           have b := (Lw6.out.past q).t.2.1
           exact ⟨a 0, a 1, a 2, a 3, b 0, b 1, b 2, b 3⟩))
         have hcl := Hz.mk (fun Y (q : Below X5.heap.size X5 Y) => hGr.out (bendP m) hbr.out Y _ _ _ ((bendP m).regs.length + 8) ((bendP m).comps.length + 8) ((bendP m).gates.length + 8) jz (Lw6.out.past q).img)
         go_region_held3 (fun X => X.cell? ⟨ky, 0, none⟩ = some (.bool (gB (bendP m) jz)) ∧ X.cell? ⟨ky, 1, none⟩ = some (.int .u64 (gS (bendP m) jz)) ∧ X.cell? ⟨ky, 2, none⟩ = some (.int .u64 (gC (bendP m) jz)) ∧ X.cell? ⟨ky, 3, none⟩ = some (.int .u64 (gI (bendP m) jz)) ∧ X.cell? ⟨kt, 0, none⟩ = some (.slice (some ⟨kr, 0, none⟩) (bendP m).regs.length ((bendP m).regs.length + 8)) ∧ X.cell? ⟨kt, 1, none⟩ = some (.slice (some ⟨kc, 0, none⟩) (bendP m).comps.length ((bendP m).comps.length + 8)) ∧ X.cell? ⟨kt, 2, none⟩ = some (.slice (some ⟨kg, 0, none⟩) (bendP m).gates.length ((bendP m).gates.length + 8)) ∧ X.cell? ⟨kt, 3, none⟩ = some (.int .i64 (bendP m).depth)) ((refine KS.out _ ?_; (repeat (first | with_reducible assumption | with_reducible exact Below.refl _ _ | with_reducible refine Below.alloc ?_ (by first | omega | (simp <;> omega)) _ | with_reducible refine Below.setCell ?_ (by first | omega | (simp <;> omega)) _ | with_reducible refine Below.drew ?_)))) (first | (go_at_call 12; refine (hcl.out _ (by (repeat (first | with_reducible assumption | with_reducible exact Below.refl _ _ | with_reducible refine Below.alloc ?_ (by first | omega | (simp <;> omega)) _ | with_reducible refine Below.setCell ?_ (by first | omega | (simp <;> omega)) _ | with_reducible refine Below.drew ?_)))).mono ?_; rintro r w9 ⟨rfl, b9⟩; have Q9 : Below X5.heap.size X5 w9 := Below.trans (by (repeat (first | with_reducible assumption | with_reducible exact Below.refl _ _ | with_reducible refine Below.alloc ?_ (by first | omega | (simp <;> omega)) _ | with_reducible refine Below.setCell ?_ (by first | omega | (simp <;> omega)) _ | with_reducible refine Below.drew ?_))) (b9.mono (by simp <;> omega)); have Q9s := Q9.size; clear b9) | fail)
         all_goals
           have QE : Below X5.heap.size X5 w9 := Q9
           have Lw7 := Hz.mk (And.intro (Lw6.out.past QE) (at_past aK6.out QE))
           clear KS hcl aX5 Lw6 Q9 QE aK6
           replace hij := hij.out
           replace hij2 := hij2.out
           go_wp2_with fail
           clear hij hij2
           go_roundw
           case rel => exact ⟨j + 1, by first | rfl | simp, by omega, Lw7⟩
           case measure => simp only [intOf]; have := hjz.out; omega
       · have hi2 : ¬ (j : Int) < m.gates.length := by omega
         replace Lw0 := Hz.mk Lw0
         have awr := Hz.mk aK
         clear aK t0 t1 t2 t3 c0 c1 c3
         go_upto_region 18 with fail
         clear c2
         have KS := Hz.mk (fun Y (q : Below wr.heap.size wr Y) => (show Y.cell? ⟨kx, 0, none⟩ = some (.bool (gB m gate)) ∧ Y.cell? ⟨kx, 1, none⟩ = some (.int .u64 (gS m gate)) ∧ Y.cell? ⟨kx, 2, none⟩ = some (.int .u64 (gC m gate)) ∧ Y.cell? ⟨kx, 3, none⟩ = some (.int .u64 (gI m gate)) ∧ Y.cell? ⟨w.heap.size, 0, none⟩ = some (.slice ra m.regs.length rc) ∧ Y.cell? ⟨w.heap.size, 1, none⟩ = some (.slice ca m.comps.length cc) ∧ Y.cell? ⟨w.heap.size, 2, none⟩ = some (.slice ga m.gates.length gc) ∧ Y.cell? ⟨w.heap.size, 3, none⟩ = some (.int .i64 m.depth) from by
           have a := (at_past awr.out q).2.1
           have b := (Lw0.out.past q).m.2.1
           exact ⟨a 0, a 1, a 2, a 3, b 0, b 1, b 2, b 3⟩))
         have hcl := Hz.mk (fun Y (q : Below wr.heap.size wr Y) => hGr.out m hr1.out Y _ _ _ rc cc gc gate (hmI.out Y (Lw0.out.past q).b))
         go_region_held3 (fun X => X.cell? ⟨kx, 0, none⟩ = some (.bool (gB m gate)) ∧ X.cell? ⟨kx, 1, none⟩ = some (.int .u64 (gS m gate)) ∧ X.cell? ⟨kx, 2, none⟩ = some (.int .u64 (gC m gate)) ∧ X.cell? ⟨kx, 3, none⟩ = some (.int .u64 (gI m gate)) ∧ X.cell? ⟨w.heap.size, 0, none⟩ = some (.slice ra m.regs.length rc) ∧ X.cell? ⟨w.heap.size, 1, none⟩ = some (.slice ca m.comps.length cc) ∧ X.cell? ⟨w.heap.size, 2, none⟩ = some (.slice ga m.gates.length gc) ∧ X.cell? ⟨w.heap.size, 3, none⟩ = some (.int .i64 m.depth)) ((refine KS.out _ ?_; (repeat (first | with_reducible assumption | with_reducible exact Below.refl _ _ | with_reducible refine Below.alloc ?_ (by first | omega | (simp <;> omega)) _ | with_reducible refine Below.setCell ?_ (by first | omega | (simp <;> omega)) _ | with_reducible refine Below.drew ?_)))) (first | (go_at_call 12; refine (hcl.out _ (by (repeat (first | with_reducible assumption | with_reducible exact Below.refl _ _ | with_reducible refine Below.alloc ?_ (by first | omega | (simp <;> omega)) _ | with_reducible refine Below.setCell ?_ (by first | omega | (simp <;> omega)) _ | with_reducible refine Below.drew ?_)))).mono ?_; rintro r w9 ⟨rfl, b9⟩; have Q9 : Below wr.heap.size wr w9 := Below.trans (by (repeat (first | with_reducible assumption | with_reducible exact Below.refl _ _ | with_reducible refine Below.alloc ?_ (by first | omega | (simp <;> omega)) _ | with_reducible refine Below.setCell ?_ (by first | omega | (simp <;> omega)) _ | with_reducible refine Below.drew ?_))) (b9.mono (by simp <;> omega)); have Q9s := Q9.size; clear b9) | fail)
         all_goals
           have QE : Below wr.heap.size wr w9 := Q9
           have hfin := Hz.mk (Lw0.out.past QE).b
           clear KS hcl awr Lw0 Q9 QE
           go_wp2_with fail
           go_ret
           exact ⟨by simp, hfin.out⟩
end Bd
end Go.Proofs.YtdlcphinjnnhcaaGreatDoor
