import Derived.Test.YtmmakknhaacplaaGreatDoorP24
import Derived.Test.YtmmakknhaacplaaGreatDoorP21
import Derived.Test.YtmmakknhaacplaaGreatDoorP25
import Derived.Test.YtmmakknhaacplaaGreatDoorP11
import Derived.Test.YtmmakknhaacplaaGreatDoorMDocE
import Derived.Test.YtmmakknhaacplaaGreatDoorMSizeR
import Derived.Test.YtmmakknhaacplaaGreatDoorQSpare
import Derived.Test.YtmmakknhaacplaaGreatDoorQOver
/-
  Stage 4, image: the walk of the statement on Encode.
-/
namespace Go.Proofs.YtmmakknhaacplaaGreatDoor
namespace Q
open Go.RowKit

theorem LeIn.under {kk kr kc kg : Nat} {W W' : World} {m : PImg} {lr : List RgV} {lc : List CpV} {lg : List GtV} (h : LeIn kk kr kc kg W m lr lc lg) (q : Below W.heap.size W W') : LeIn kk kr kc kg W' m lr lc lg := by
  have k : Kt kk W W' := ⟨q.size, fun g _ hg => q.block g hg⟩
  exact ⟨At.underB h.r q h.r.1, At.underB h.c q h.c.1, At.underB h.g q h.g.1, h.rl, h.cl, h.gl, h.rd.keep (rgL_keep k) (fun _ h => h), h.cd.keep (cpL_keep k) (fun _ h => h), h.gd.keep (gtL_keep k) (fun _ h => h)⟩
set_option maxRecDepth 100000 in
set_option maxHeartbeats 8000000 in
theorem walk_ImageEncode (m : PImg) (ra ca ga : Option Addr) (rc cc gc : Nat) (w : World) (ht : TabIn w) (hm : ImgIn w.heap.size w ra ca ga m) (hF : m.Fit) :
    Calls Tryz.prog 3 #[.agg #[.slice ra m.regs.length rc, .slice ca m.comps.length cc, .slice ga m.gates.length gc, .int .i64 m.depth]] w fun x w' => x = .returned (.bool true) ∧ Below w.heap.size w w' := by
  have hfit := Hid.mk hF.tw
  have hrng := Hid.mk hF.rng
  have hT : Hid (∀ W, Below w.heap.size w W → TabIn W) := Hid.mk (fun W h => ht.below h ht.size)
  clear hF
  replace hm := Hid.mk hm
  replace ht := Hid.mk ht
  go_enter Tryz.func3, Tryz.ntmps3
  go_upto_region 1 with fail
  refine wp_world (fun W => At W w.heap.size #[.slice ra m.regs.length rc, .slice ca m.comps.length cc, .slice ga m.gates.length gc, .int .i64 m.depth] ∧ Gr w W) ⟨At.new w _ _, (Gr.refl w).alloc _⟩ ?_
  rintro W0 ⟨BM, G0⟩
  replace BM := Hid.mk BM
  replace G0 := Hid.mk G0
  go_wp2_with fail
  refine (examples_any W0 (ht.out.gr G0.out)).mono ?_
  rintro x w1 ⟨rfl, hB1⟩
  have hs : w.heap.size < W0.heap.size := BM.out.1
  replace BM := Hid.mk (At.underB BM.out hB1 hs)
  have hB : Below w.heap.size w w1 := G0.out.below.trans (hB1.mono (Nat.le_of_lt hs))
  clear hB1 hs G0 ht
  replace hm : Hid (ImgIn w.heap.size w1 ra ca ga m) := Hid.mk (hm.out.below hB)
  replace hB := Hid.mk hB
  have c0 : w1.cell? ⟨w.heap.size, 0, none⟩ = some (.slice ra m.regs.length rc) := BM.out.2.1 0
  have c1 : w1.cell? ⟨w.heap.size, 1, none⟩ = some (.slice ca m.comps.length cc) := BM.out.2.1 1
  have c2 : w1.cell? ⟨w.heap.size, 2, none⟩ = some (.slice ga m.gates.length gc) := BM.out.2.1 2
  have c3 : w1.cell? ⟨w.heap.size, 3, none⟩ = some (.int .i64 m.depth) := BM.out.2.1 3
  go_wp2_with fail
  refine (lentS_any m ra ca ga rc cc gc w1 (hm.out.mono hB.out.size) hfit.out).mono ?_
  rintro x w2 ⟨kk, kr, kc, kg, lr, lc, lg, rfl, G2, hI, hi, hSp⟩
  clear c0 c1 c2 c3
  have hlo := hB.out.size
  replace hSp := Hid.mk hSp
  replace BM := Hid.mk (BM.out.gr G2)
  go_upto_region 3 with fail
  refine wp_world (fun W => At W w2.heap.size #[.slice (some ⟨kr, 0, none⟩) m.regs.length (m.regs.length + 8), .slice (some ⟨kc, 0, none⟩) m.comps.length (m.comps.length + 8), .slice (some ⟨kg, 0, none⟩) m.gates.length (m.gates.length + 8), .int .i64 m.depth] ∧ At W w.heap.size #[.slice ra m.regs.length rc, .slice ca m.comps.length cc, .slice ga m.gates.length gc, .int .i64 m.depth] ∧ Gr w2 W) ⟨At.new w2 _ _, BM.out.alloc _, (Gr.refl _).alloc _⟩ ?_
  rintro W3 ⟨BT, BM3, G3⟩
  clear BM
  have BM := Hid.mk BM3
  clear BM3
  replace BT := Hid.mk BT
  replace hI := Hid.mk (hI.gr G3)
  replace hm : Hid (ImgIn w.heap.size W3 ra ca ga m) := Hid.mk (hm.out.below (gr_belowR (G2.trans G3) hB.out.size))
  replace hB := Hid.mk (hB.out.trans (gr_belowR (G2.trans G3) hB.out.size))
  clear G2 G3
  generalize w2.heap.size = kt at *
  have t0 : W3.cell? ⟨kt, 0, none⟩ = some (.slice (some ⟨kr, 0, none⟩) m.regs.length (m.regs.length + 8)) := BT.out.2.1 0
  have t1 : W3.cell? ⟨kt, 1, none⟩ = some (.slice (some ⟨kc, 0, none⟩) m.comps.length (m.comps.length + 8)) := BT.out.2.1 1
  have t2 : W3.cell? ⟨kt, 2, none⟩ = some (.slice (some ⟨kg, 0, none⟩) m.gates.length (m.gates.length + 8)) := BT.out.2.1 2
  have t3 : W3.cell? ⟨kt, 3, none⟩ = some (.int .i64 m.depth) := BT.out.2.1 3
  go_wp2_with fail
  refine (imgEncode_any m (some ⟨kr, 0, none⟩) (some ⟨kc, 0, none⟩) (some ⟨kg, 0, none⟩) _ _ _ W3 (hT.out _ hB.out) hI.out.img hrng.out).mono ?_
  rintro x w4 ⟨rfl, G4⟩
  clear t0 t1 t2 t3
  replace BM := Hid.mk (At.underB BM.out G4 BM.out.1)
  replace BT := Hid.mk (At.underB BT.out G4 BT.out.1)
  replace hI := Hid.mk (LeIn.under hI.out G4)
  replace hm : Hid (ImgIn w.heap.size w4 ra ca ga m) := Hid.mk (hm.out.below (G4.mono hB.out.size))
  replace hB : Hid (Below w.heap.size w w4) := Hid.mk (hB.out.trans (G4.mono hB.out.size))
  clear G4
  go_upto_region 4 with fail
  have c0 : w4.cell? ⟨w.heap.size, 0, none⟩ = some (.slice ra m.regs.length rc) := BM.out.2.1 0
  have c1 : w4.cell? ⟨w.heap.size, 1, none⟩ = some (.slice ca m.comps.length cc) := BM.out.2.1 1
  have c2 : w4.cell? ⟨w.heap.size, 2, none⟩ = some (.slice ga m.gates.length gc) := BM.out.2.1 2
  have c3 : w4.cell? ⟨w.heap.size, 3, none⟩ = some (.int .i64 m.depth) := BM.out.2.1 3
  have hcl := Hid.mk (refEnc_any m ra ca ga rc cc gc w4 (hm.out.mono hB.out.size) hrng.out (fun h0 W hW => refSize_any m ra ca ga rc cc gc W hW hrng.out h0))
  generalize encI m = E at *
  obtain ⟨E1, E2⟩ := E
  dsimp only at hcl ⊢
  go_wp2_with fail
  refine hcl.out.mono ?_
  rintro x w5 ⟨rfl, G5⟩
  clear c0 c1 c2 c3 hcl
  replace BM := Hid.mk (At.underB BM.out G5 BM.out.1)
  replace BT := Hid.mk (At.underB BT.out G5 BT.out.1)
  replace hI := Hid.mk (LeIn.under hI.out G5)
  replace hm : Hid (ImgIn w.heap.size w5 ra ca ga m) := Hid.mk (hm.out.below (G5.mono hB.out.size))
  replace hB : Hid (Below w.heap.size w w5) := Hid.mk (hB.out.trans (G5.mono hB.out.size))
  clear G5
  go_upto_region 5 with fail
  have c0 : w5.cell? ⟨w.heap.size, 0, none⟩ = some (.slice ra m.regs.length rc) := BM.out.2.1 0
  have c1 : w5.cell? ⟨w.heap.size, 1, none⟩ = some (.slice ca m.comps.length cc) := BM.out.2.1 1
  have c2 : w5.cell? ⟨w.heap.size, 2, none⟩ = some (.slice ga m.gates.length gc) := BM.out.2.1 2
  have c3 : w5.cell? ⟨w.heap.size, 3, none⟩ = some (.int .i64 m.depth) := BM.out.2.1 3
  have t0 : w5.cell? ⟨kt, 0, none⟩ = some (.slice (some ⟨kr, 0, none⟩) m.regs.length (m.regs.length + 8)) := BT.out.2.1 0
  have t1 : w5.cell? ⟨kt, 1, none⟩ = some (.slice (some ⟨kc, 0, none⟩) m.comps.length (m.comps.length + 8)) := BT.out.2.1 1
  have t2 : w5.cell? ⟨kt, 2, none⟩ = some (.slice (some ⟨kg, 0, none⟩) m.gates.length (m.gates.length + 8)) := BT.out.2.1 2
  have t3 : w5.cell? ⟨kt, 3, none⟩ = some (.int .i64 m.depth) := BT.out.2.1 3
  go_wp2_with fail
  refine (same_any m m (some ⟨kr, 0, none⟩) (some ⟨kc, 0, none⟩) (some ⟨kg, 0, none⟩) ra ca ga _ _ _ rc cc gc w5 hI.out.img (hm.out.mono hB.out.size) hrng.out).mono ?_
  rintro x w6 ⟨rfl, G6⟩
  clear c0 c1 c2 c3 t0 t1 t2 t3
  rw [(PImg.eqB_iff m m).2 rfl]
  replace G6 := G6.below
  replace BM := Hid.mk (At.underB BM.out G6 BM.out.1)
  replace BT := Hid.mk (At.underB BT.out G6 BT.out.1)
  replace hI := Hid.mk (LeIn.under hI.out G6)
  replace hm : Hid (ImgIn w.heap.size w6 ra ca ga m) := Hid.mk (hm.out.below (G6.mono hB.out.size))
  replace hB : Hid (Below w.heap.size w w6) := Hid.mk (hB.out.trans (G6.mono hB.out.size))
  clear G6
  go_upto_region 6 with fail
  have t0 : w6.cell? ⟨kt, 0, none⟩ = some (.slice (some ⟨kr, 0, none⟩) m.regs.length (m.regs.length + 8)) := BT.out.2.1 0
  have t1 : w6.cell? ⟨kt, 1, none⟩ = some (.slice (some ⟨kc, 0, none⟩) m.comps.length (m.comps.length + 8)) := BT.out.2.1 1
  have t2 : w6.cell? ⟨kt, 2, none⟩ = some (.slice (some ⟨kg, 0, none⟩) m.gates.length (m.gates.length + 8)) := BT.out.2.1 2
  have t3 : w6.cell? ⟨kt, 3, none⟩ = some (.int .i64 m.depth) := BT.out.2.1 3
  go_wp2_with fail
  refine (spared_any m kk kr kc kg lr lc lg w6 hI.out hfit.out).mono ?_
  rintro x w7 ⟨rfl, G7⟩
  clear t0 t1 t2 t3
  replace G7 := G7.below
  replace BM := Hid.mk (At.underB BM.out G7 BM.out.1)
  replace BT := Hid.mk (At.underB BT.out G7 BT.out.1)
  replace hI := Hid.mk (LeIn.under hI.out G7)
  replace hm : Hid (ImgIn w.heap.size w7 ra ca ga m) := Hid.mk (hm.out.below (G7.mono hB.out.size))
  replace hB : Hid (Below w.heap.size w w7) := Hid.mk (hB.out.trans (G7.mono hB.out.size))
  clear G7
  go_upto_region 7 with fail
  have t0 : w7.cell? ⟨kt, 0, none⟩ = some (.slice (some ⟨kr, 0, none⟩) m.regs.length (m.regs.length + 8)) := BT.out.2.1 0
  have t1 : w7.cell? ⟨kt, 1, none⟩ = some (.slice (some ⟨kc, 0, none⟩) m.comps.length (m.comps.length + 8)) := BT.out.2.1 1
  have t2 : w7.cell? ⟨kt, 2, none⟩ = some (.slice (some ⟨kg, 0, none⟩) m.gates.length (m.gates.length + 8)) := BT.out.2.1 2
  have t3 : w7.cell? ⟨kt, 3, none⟩ = some (.int .i64 m.depth) := BT.out.2.1 3
  go_wp2_with fail
  refine (over_any m kk kr kc kg _ hi lr lc lg w.heap.size w w7 hI.out hSp.out hB.out (by omega) hfit.out).mono ?_
  rintro x w8 ⟨rfl, hB8⟩
  clear t0 t1 t2 t3 BM BT hI hm hB hT hfit hrng hSp
  replace hB8 := Hid.mk hB8
  go_wp2_with fail
  go_ret
  exact ⟨by simp, hB8.out⟩
end Q
end Go.Proofs.YtmmakknhaacplaaGreatDoor
