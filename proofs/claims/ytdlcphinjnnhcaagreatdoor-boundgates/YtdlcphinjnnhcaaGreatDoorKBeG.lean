import Derived.Test.YtdlcphinjnnhcaaGreatDoorK28
import Derived.Test.YtdlcphinjnnhcaaGreatDoorK06
namespace Go.Proofs.YtdlcphinjnnhcaaGreatDoor
namespace Bd
open Go.RowKit
open T (Kp)
open Q (RgV CpV GtV TwIn)

structure Lw (w : World) (kt kk kr kc kg : Nat) (z m : PImg) (ra ca ga : Option Addr) (rc cc gc : Nat) (lr : List RgV) (lc : List CpV) (lg : List GtV) (W : World) : Prop where
 t : At W kt #[.slice (some ⟨kr, 0, none⟩) z.regs.length (z.regs.length + 8), .slice (some ⟨kc, 0, none⟩) z.comps.length (z.comps.length + 8), .slice (some ⟨kg, 0, none⟩) z.gates.length (z.gates.length + 8), .int .i64 z.depth]
 m : At W w.heap.size #[.slice ra m.regs.length rc, .slice ca m.comps.length cc, .slice ga m.gates.length gc, .int .i64 m.depth]
 i : TwIn kk kr kc kg W z lr lc lg
 b : Below w.heap.size w W
section
variable {w : World} {kt kk kr kc kg : Nat} {z m : PImg} {ra ca ga : Option Addr} {rc cc gc : Nat} {lr : List RgV} {lc : List CpV} {lg : List GtV} {W W' : World}
theorem twin_below (h : TwIn kk kr kc kg W z lr lc lg) (hb : Below W.heap.size W W') : TwIn kk kr kc kg W' z lr lc lg := by
 have k : Q.Kt kk W W' := ⟨hb.size, fun g _ h2 => hb.block g h2⟩
 exact ⟨at_past h.r hb, at_past h.c hb, at_past h.g hb, h.rl, h.cl, h.gl, h.rd.keep (Q.rgOk_keep k) (fun _ h => h), h.cd.keep (Q.cpOk_keep k) (Q.cpMark_keep k), h.gd.keep (Q.gtOk_keep k) (fun _ h => h)⟩
theorem Lw.past (h : Lw w kt kk kr kc kg z m ra ca ga rc cc gc lr lc lg W) (hb : Below W.heap.size W W') : Lw w kt kk kr kc kg z m ra ca ga rc cc gc lr lc lg W' :=
 ⟨at_past h.t hb, at_past h.m hb, twin_below h.i hb, h.b.trans (hb.mono h.b.size)⟩
theorem Lw.ts (h : Lw w kt kk kr kc kg z m ra ca ga rc cc gc lr lc lg W) : W.cell? ⟨kt, 0, none⟩ = some (.slice (some ⟨kr, 0, none⟩) z.regs.length (z.regs.length + 8)) ∧ W.cell? ⟨kt, 1, none⟩ = some (.slice (some ⟨kc, 0, none⟩) z.comps.length (z.comps.length + 8)) ∧ W.cell? ⟨kt, 2, none⟩ = some (.slice (some ⟨kg, 0, none⟩) z.gates.length (z.gates.length + 8)) ∧ W.cell? ⟨kt, 3, none⟩ = some (.int .i64 z.depth) :=
 ⟨h.t.2.1 0, h.t.2.1 1, h.t.2.1 2, h.t.2.1 3⟩
theorem Lw.ms (h : Lw w kt kk kr kc kg z m ra ca ga rc cc gc lr lc lg W) : W.cell? ⟨w.heap.size, 0, none⟩ = some (.slice ra m.regs.length rc) ∧ W.cell? ⟨w.heap.size, 1, none⟩ = some (.slice ca m.comps.length cc) ∧ W.cell? ⟨w.heap.size, 2, none⟩ = some (.slice ga m.gates.length gc) ∧ W.cell? ⟨w.heap.size, 3, none⟩ = some (.int .i64 m.depth) :=
 ⟨h.m.2.1 0, h.m.2.1 1, h.m.2.1 2, h.m.2.1 3⟩
theorem Lw.img (h : Lw w kt kk kr kc kg z m ra ca ga rc cc gc lr lc lg W) : ImgIn W.heap.size W (some ⟨kr, 0, none⟩) (some ⟨kc, 0, none⟩) (some ⟨kg, 0, none⟩) z := twin_img h.i
theorem Lw.bent (h : Lw w kt kk kr kc kg m m ra ca ga rc cc gc lr lc lg W) (hk : w.heap.size < kk) (ht : ∀ b, CodeAt m lc b → b < kt) (hi : TwIn kk kr kc kg W' (bendP m) lr lc lg) (hp : Kp (CodeAt m lc) W W') : Lw w kt kk kr kc kg (bendP m) m ra ca ga rc cc gc lr lc lg W' := by
 have hc : ∀ b, CodeAt m lc b → kk < b := fun b ⟨k, v, h1, h2, e⟩ => by
   obtain ⟨g, L', r1, r2, r3, r4, r5, r6⟩ := (Bnt.start h.i).row k h1 v h2
   rw [r1] at e
   injection e with e
   injection e with e
   omega
 have e : (bendP m).comps.length = m.comps.length := by simp [bendP]
 refine ⟨?_, at_keep h.m hp (fun q => by have := hc _ q; omega), hi, h.b.trans (hp.below h.b.size (fun b q => by have := hc _ q; omega))⟩
 rw [e]
 exact at_keep h.t hp (fun q => by have := ht _ q; omega)
theorem code_lt (h : TwIn kk kr kc kg W m lr lc lg) : ∀ b, CodeAt m lc b → b < W.heap.size := fun b ⟨k, v, h1, h2, e⟩ => by
 obtain ⟨g, L', r1, r2, r3, r4, r5, r6⟩ := (Bnt.start h).row k h1 v h2
 rw [r1] at e
 injection e with e
 injection e with e
 omega
end
end Bd
end Go.Proofs.YtdlcphinjnnhcaaGreatDoor
