import Derived.Test.YtcljibdikhpnlaaDoorP24
import Derived.Test.YtcljibdikhpnlaaDoorP25
import Derived.Test.YtcljibdikhpnlaaDoorQSpare
import Derived.Test.YtcljibdikhpnlaaDoorQCopyM
import Derived.Test.YtcljibdikhpnlaaDoorMDocB
/-
  Stage 4, image: the walk of the statement on Copy.
-/
namespace Go.Proofs.YtcljibdikhpnlaaDoor
namespace Q
open Go.RowKit

theorem LeIn.under {kk kr kc kg : Nat} {W W' : World} {m : PImg} {lr : List RgV} {lc : List CpV} {lg : List GtV} (h : LeIn kk kr kc kg W m lr lc lg) (q : Below W.heap.size W W') : LeIn kk kr kc kg W' m lr lc lg := by
  have k : Kt kk W W' := ⟨q.size, fun g _ hg => q.block g hg⟩
  exact ⟨At.underB h.r q h.r.1, At.underB h.c q h.c.1, At.underB h.g q h.g.1, h.rl, h.cl, h.gl, h.rd.keep (rgL_keep k) (fun _ h => h), h.cd.keep (cpL_keep k) (fun _ h => h), h.gd.keep (gtL_keep k) (fun _ h => h)⟩
set_option maxRecDepth 100000 in
set_option maxHeartbeats 16000000 in
theorem walk_ImageCopy (m : PImg) (ra ca ga : Option Addr) (rc cc gc : Nat) (w : World) (ht : TabIn w) (hm : ImgIn w.heap.size w ra ca ga m) (hF : m.Fit) :
    Calls Tryd.prog 3 #[.agg #[.slice ra m.regs.length rc, .slice ca m.comps.length cc, .slice ga m.gates.length gc, .int .i64 m.depth]] w fun x w' => x = .returned (.bool true) ∧ Below w.heap.size w w' := by
  have hfit := Hid.mk hF.tw
  have hrng := Hid.mk hF.rng
  have hfits := Hid.mk (fit_fits hF)
  have htwo := Hid.mk (fit_two hF)
  have q0 : m.regs.length ≤ 281474976710648 := by have := hF.tw.r; omega
  have q1 : m.comps.length ≤ 281474976710648 := by have := hF.tw.c; omega
  have q2 : m.gates.length ≤ 281474976710648 := by have := hF.tw.g; omega
  clear hF
  replace hm := Hid.mk hm
  replace ht := Hid.mk ht
  go_enter Tryd.func3, Tryd.ntmps3
  go_upto_region 1 with fail
  refine wp_world (fun W => At W w.heap.size #[.slice ra m.regs.length rc, .slice ca m.comps.length cc, .slice ga m.gates.length gc, .int .i64 m.depth] ∧ Gr w W) ⟨At.new w _ _, (Gr.refl w).alloc _⟩ ?_
  rintro W0 ⟨BM, G0⟩
  replace BM := Hid.mk BM
  replace G0 := Hid.mk G0
  go_wp2_with fail
  refine (examples_any W0 (ht.out.gr G0.out)).mono ?_
  rintro x w1 ⟨rfl, hB1⟩
  have hs : w.heap.size < W0.heap.size := BM.out.1
  replace BM := Hid.mk (At.underB BM.out hB1 hs)
  have hB : Below w.heap.size w w1 := G0.out.below.trans (hB1.mono (Nat.le_of_lt hs))
  clear hB1 hs G0 ht
  replace hm : Hid (ImgIn w.heap.size w1 ra ca ga m) := Hid.mk (hm.out.below hB)
  replace hB := Hid.mk hB
  have m0 : w1.cell? ⟨w.heap.size, 0, none⟩ = some (.slice ra m.regs.length rc) := BM.out.2.1 0
  have m1 : w1.cell? ⟨w.heap.size, 1, none⟩ = some (.slice ca m.comps.length cc) := BM.out.2.1 1
  have m2 : w1.cell? ⟨w.heap.size, 2, none⟩ = some (.slice ga m.gates.length gc) := BM.out.2.1 2
  have m3 : w1.cell? ⟨w.heap.size, 3, none⟩ = some (.int .i64 m.depth) := BM.out.2.1 3
  go_wp2_with fail
  refine (lentS_any m ra ca ga rc cc gc w1 (hm.out.mono hB.out.size) hfit.out).mono ?_
  rintro x w2 ⟨kk, kr, kc, kg, lr, lc, lg, rfl, G2, hI, hi, hSp⟩
  clear m0 m1 m2 m3
  have hlo := hB.out.size
  have b0 : w.heap.size < w1.heap.size := BM.out.1
  replace hI := Hid.mk hI
  have hX := Hid.mk (lent_hdr hI.out hSp hfit.out)
  clear hSp
  have K1 := Kx.of_gr G2
  replace BM : Hid (At w2 w.heap.size #[.slice ra m.regs.length rc, .slice ca m.comps.length cc, .slice ga m.gates.length gc, .int .i64 m.depth]) := Hid.mk (K1.at_ BM.out (by omega))
  replace hm : Hid (ImgIn w.heap.size w2 ra ca ga m) := Hid.mk (hm.out.below (K1.bel hB.out.size (by omega)))
  replace hB : Hid (Below w.heap.size w w2) := Hid.mk (hB.out.trans (K1.bel hB.out.size (by omega)))
  have sz_w2 := K1.size
  clear K1
  clear G2
  generalize hx1 : w1.heap.size + 1 + 1 = lx at hX
  generalize hx2 : w2.heap.size = hx at *
  go_upto_region 3 with fail
  refine wp_world (fun W => At W hx #[.slice (some ⟨kr, 0, none⟩) m.regs.length (m.regs.length + 8), .slice (some ⟨kc, 0, none⟩) m.comps.length (m.comps.length + 8), .slice (some ⟨kg, 0, none⟩) m.gates.length (m.gates.length + 8), .int .i64 m.depth] ∧ Gr w2 W) ⟨by rw [← hx2]; exact At.new w2 _ _, (Gr.refl _).alloc _⟩ ?_
  rintro W3 ⟨BN, G3⟩
  replace hX := Hid.mk (hX.out.gr G3)
  have K1 := Kx.of_gr G3
  replace BM : Hid (At W3 w.heap.size #[.slice ra m.regs.length rc, .slice ca m.comps.length cc, .slice ga m.gates.length gc, .int .i64 m.depth]) := Hid.mk (K1.at_ BM.out (by omega))
  replace hI := Hid.mk (LeIn.under hI.out G3.below)
  replace hm : Hid (ImgIn w.heap.size W3 ra ca ga m) := Hid.mk (hm.out.below (K1.bel hB.out.size (by omega)))
  replace hB : Hid (Below w.heap.size w W3) := Hid.mk (hB.out.trans (K1.bel hB.out.size (by omega)))
  have sz_W3 := K1.size
  clear K1
  clear G3
  have kx_ : hx < W3.heap.size := BN.1
  have BX : Hid (At W3 hx #[.slice (some ⟨kr, 0, none⟩) m.regs.length (m.regs.length + 8), .slice (some ⟨kc, 0, none⟩) m.comps.length (m.comps.length + 8), .slice (some ⟨kg, 0, none⟩) m.gates.length (m.gates.length + 8), .int .i64 m.depth]) := Hid.mk BN
  clear BN
  have x0 : W3.cell? ⟨hx, 0, none⟩ = some (.slice (some ⟨kr, 0, none⟩) m.regs.length (m.regs.length + 8)) := BX.out.2.1 0
  have x1 : W3.cell? ⟨hx, 1, none⟩ = some (.slice (some ⟨kc, 0, none⟩) m.comps.length (m.comps.length + 8)) := BX.out.2.1 1
  have x2 : W3.cell? ⟨hx, 2, none⟩ = some (.slice (some ⟨kg, 0, none⟩) m.gates.length (m.gates.length + 8)) := BX.out.2.1 2
  have x3 : W3.cell? ⟨hx, 3, none⟩ = some (.int .i64 m.depth) := BX.out.2.1 3
  go_wp2_with fail
  refine (Copy_any m (some ⟨kr, 0, none⟩) (some ⟨kc, 0, none⟩) (some ⟨kg, 0, none⟩) _ _ _ W3 hI.out.img hfits.out).mono ?_
  rintro x w4 ⟨ra1, rc1, ca1, cc1, ga1, gc1, rfl, hO, hK⟩
  clear x0 x1 x2 x3
  have O1 : Hid (ImgOwn W3.heap.size w4 (.slice ra1 m.regs.length rc1) (.slice ca1 m.comps.length cc1) (.slice ga1 m.gates.length gc1) m) := Hid.mk hO
  clear hO
  generalize hl1 : W3.heap.size = l1 at O1
  have K1 := Kx.of_below hK
  replace BM : Hid (At w4 w.heap.size #[.slice ra m.regs.length rc, .slice ca m.comps.length cc, .slice ga m.gates.length gc, .int .i64 m.depth]) := Hid.mk (K1.at_ BM.out (by omega))
  replace BX : Hid (At w4 hx #[.slice (some ⟨kr, 0, none⟩) m.regs.length (m.regs.length + 8), .slice (some ⟨kc, 0, none⟩) m.comps.length (m.comps.length + 8), .slice (some ⟨kg, 0, none⟩) m.gates.length (m.gates.length + 8), .int .i64 m.depth]) := Hid.mk (K1.at_ BX.out (by omega))
  replace hI := Hid.mk (LeIn.under hI.out hK)
  replace hX := Hid.mk (hX.out.bel hK)
  replace hm : Hid (ImgIn w.heap.size w4 ra ca ga m) := Hid.mk (hm.out.below (K1.bel hB.out.size (by omega)))
  replace hB : Hid (Below w.heap.size w w4) := Hid.mk (hB.out.trans (K1.bel hB.out.size (by omega)))
  have sz_w4 := K1.size
  clear K1
  clear hK
  obtain ⟨jr, jc, jg, HA⟩ := own_hdr O1.out htwo.out
  replace HA := Hid.mk HA
  generalize hh1 : w4.heap.size = h1 at *
  have hlh1 : l1 ≤ h1 := by omega
  go_upto_region 4 with fail
  refine wp_world (fun W => At W h1 #[.slice ra1 m.regs.length rc1, .slice ca1 m.comps.length cc1, .slice ga1 m.gates.length gc1, .int .i64 m.depth] ∧ Gr w4 W) ⟨by rw [← hh1]; exact At.new w4 _ _, (Gr.refl _).alloc _⟩ ?_
  rintro W5 ⟨BN, GN⟩
  have K1 := Kx.of_gr GN
  replace BM : Hid (At W5 w.heap.size #[.slice ra m.regs.length rc, .slice ca m.comps.length cc, .slice ga m.gates.length gc, .int .i64 m.depth]) := Hid.mk (K1.at_ BM.out (by omega))
  replace BX : Hid (At W5 hx #[.slice (some ⟨kr, 0, none⟩) m.regs.length (m.regs.length + 8), .slice (some ⟨kc, 0, none⟩) m.comps.length (m.comps.length + 8), .slice (some ⟨kg, 0, none⟩) m.gates.length (m.gates.length + 8), .int .i64 m.depth]) := Hid.mk (K1.at_ BX.out (by omega))
  replace O1 : Hid (ImgOwn l1 W5 (.slice ra1 m.regs.length rc1) (.slice ca1 m.comps.length cc1) (.slice ga1 m.gates.length gc1) m) := Hid.mk (img_kx K1 O1.out (by omega))
  replace hI := Hid.mk (LeIn.under hI.out GN.below)
  replace hX := Hid.mk (hX.out.bel GN.below)
  replace HA := Hid.mk (HA.out.kx K1 (by omega))
  replace hm : Hid (ImgIn w.heap.size W5 ra ca ga m) := Hid.mk (hm.out.below (K1.bel hB.out.size (by omega)))
  replace hB : Hid (Below w.heap.size w W5) := Hid.mk (hB.out.trans (K1.bel hB.out.size (by omega)))
  have sz_W5 := K1.size
  clear K1
  clear GN
  have ka_ : h1 < W5.heap.size := BN.1
  have BA : Hid (At W5 h1 #[.slice ra1 m.regs.length rc1, .slice ca1 m.comps.length cc1, .slice ga1 m.gates.length gc1, .int .i64 m.depth]) := Hid.mk BN
  clear BN
  have x0 : W5.cell? ⟨hx, 0, none⟩ = some (.slice (some ⟨kr, 0, none⟩) m.regs.length (m.regs.length + 8)) := BX.out.2.1 0
  have x1 : W5.cell? ⟨hx, 1, none⟩ = some (.slice (some ⟨kc, 0, none⟩) m.comps.length (m.comps.length + 8)) := BX.out.2.1 1
  have x2 : W5.cell? ⟨hx, 2, none⟩ = some (.slice (some ⟨kg, 0, none⟩) m.gates.length (m.gates.length + 8)) := BX.out.2.1 2
  have x3 : W5.cell? ⟨hx, 3, none⟩ = some (.int .i64 m.depth) := BX.out.2.1 3
  go_wp2_with fail
  refine (Copy_any m (some ⟨kr, 0, none⟩) (some ⟨kc, 0, none⟩) (some ⟨kg, 0, none⟩) _ _ _ W5 hI.out.img hfits.out).mono ?_
  rintro x w6 ⟨ra2, rc2, ca2, cc2, ga2, gc2, rfl, hO, hK⟩
  clear x0 x1 x2 x3
  have O2 : Hid (ImgOwn W5.heap.size w6 (.slice ra2 m.regs.length rc2) (.slice ca2 m.comps.length cc2) (.slice ga2 m.gates.length gc2) m) := Hid.mk hO
  clear hO
  generalize hl2 : W5.heap.size = l2 at O2
  have K1 := Kx.of_below hK
  replace BM : Hid (At w6 w.heap.size #[.slice ra m.regs.length rc, .slice ca m.comps.length cc, .slice ga m.gates.length gc, .int .i64 m.depth]) := Hid.mk (K1.at_ BM.out (by omega))
  replace BX : Hid (At w6 hx #[.slice (some ⟨kr, 0, none⟩) m.regs.length (m.regs.length + 8), .slice (some ⟨kc, 0, none⟩) m.comps.length (m.comps.length + 8), .slice (some ⟨kg, 0, none⟩) m.gates.length (m.gates.length + 8), .int .i64 m.depth]) := Hid.mk (K1.at_ BX.out (by omega))
  replace BA : Hid (At w6 h1 #[.slice ra1 m.regs.length rc1, .slice ca1 m.comps.length cc1, .slice ga1 m.gates.length gc1, .int .i64 m.depth]) := Hid.mk (K1.at_ BA.out (by omega))
  replace O1 : Hid (ImgOwn l1 w6 (.slice ra1 m.regs.length rc1) (.slice ca1 m.comps.length cc1) (.slice ga1 m.gates.length gc1) m) := Hid.mk (img_kx K1 O1.out (by omega))
  replace hI := Hid.mk (LeIn.under hI.out hK)
  replace hX := Hid.mk (hX.out.bel hK)
  replace HA := Hid.mk (HA.out.kx K1 (by omega))
  replace hm : Hid (ImgIn w.heap.size w6 ra ca ga m) := Hid.mk (hm.out.below (K1.bel hB.out.size (by omega)))
  replace hB : Hid (Below w.heap.size w w6) := Hid.mk (hB.out.trans (K1.bel hB.out.size (by omega)))
  have sz_w6 := K1.size
  clear K1
  clear hK
  generalize hh2 : w6.heap.size = h2 at *
  have hlh2 : l2 ≤ h2 := by omega
  go_upto_region 5 with fail
  refine wp_world (fun W => At W h2 #[.slice ra2 m.regs.length rc2, .slice ca2 m.comps.length cc2, .slice ga2 m.gates.length gc2, .int .i64 m.depth] ∧ Gr w6 W) ⟨by rw [← hh2]; exact At.new w6 _ _, (Gr.refl _).alloc _⟩ ?_
  rintro W7 ⟨BN, GN⟩
  have K1 := Kx.of_gr GN
  replace BM : Hid (At W7 w.heap.size #[.slice ra m.regs.length rc, .slice ca m.comps.length cc, .slice ga m.gates.length gc, .int .i64 m.depth]) := Hid.mk (K1.at_ BM.out (by omega))
  replace BX : Hid (At W7 hx #[.slice (some ⟨kr, 0, none⟩) m.regs.length (m.regs.length + 8), .slice (some ⟨kc, 0, none⟩) m.comps.length (m.comps.length + 8), .slice (some ⟨kg, 0, none⟩) m.gates.length (m.gates.length + 8), .int .i64 m.depth]) := Hid.mk (K1.at_ BX.out (by omega))
  replace BA : Hid (At W7 h1 #[.slice ra1 m.regs.length rc1, .slice ca1 m.comps.length cc1, .slice ga1 m.gates.length gc1, .int .i64 m.depth]) := Hid.mk (K1.at_ BA.out (by omega))
  replace O1 : Hid (ImgOwn l1 W7 (.slice ra1 m.regs.length rc1) (.slice ca1 m.comps.length cc1) (.slice ga1 m.gates.length gc1) m) := Hid.mk (img_kx K1 O1.out (by omega))
  replace O2 : Hid (ImgOwn l2 W7 (.slice ra2 m.regs.length rc2) (.slice ca2 m.comps.length cc2) (.slice ga2 m.gates.length gc2) m) := Hid.mk (img_kx K1 O2.out (by omega))
  replace hI := Hid.mk (LeIn.under hI.out GN.below)
  replace hX := Hid.mk (hX.out.bel GN.below)
  replace HA := Hid.mk (HA.out.kx K1 (by omega))
  replace hm : Hid (ImgIn w.heap.size W7 ra ca ga m) := Hid.mk (hm.out.below (K1.bel hB.out.size (by omega)))
  replace hB : Hid (Below w.heap.size w W7) := Hid.mk (hB.out.trans (K1.bel hB.out.size (by omega)))
  have sz_W7 := K1.size
  clear K1
  clear GN
  have kb_ : h2 < W7.heap.size := BN.1
  have BB : Hid (At W7 h2 #[.slice ra2 m.regs.length rc2, .slice ca2 m.comps.length cc2, .slice ga2 m.gates.length gc2, .int .i64 m.depth]) := Hid.mk BN
  clear BN
  have a0 : W7.cell? ⟨h1, 0, none⟩ = some (.slice ra1 m.regs.length rc1) := BA.out.2.1 0
  have a1 : W7.cell? ⟨h1, 1, none⟩ = some (.slice ca1 m.comps.length cc1) := BA.out.2.1 1
  have a2 : W7.cell? ⟨h1, 2, none⟩ = some (.slice ga1 m.gates.length gc1) := BA.out.2.1 2
  have a3 : W7.cell? ⟨h1, 3, none⟩ = some (.int .i64 m.depth) := BA.out.2.1 3
  have m0 : W7.cell? ⟨w.heap.size, 0, none⟩ = some (.slice ra m.regs.length rc) := BM.out.2.1 0
  have m1 : W7.cell? ⟨w.heap.size, 1, none⟩ = some (.slice ca m.comps.length cc) := BM.out.2.1 1
  have m2 : W7.cell? ⟨w.heap.size, 2, none⟩ = some (.slice ga m.gates.length gc) := BM.out.2.1 2
  have m3 : W7.cell? ⟨w.heap.size, 3, none⟩ = some (.int .i64 m.depth) := BM.out.2.1 3
  go_wp2_with fail
  refine (same_any m m ra1 ca1 ga1 ra ca ga _ _ _ rc cc gc W7 O1.out.into (hm.out.mono hB.out.size) hrng.out).mono ?_
  rintro x w8 ⟨rfl, G9⟩
  clear a0 a1 a2 a3 m0 m1 m2 m3
  rw [(PImg.eqB_iff m m).2 rfl]
  have K1 := Kx.of_gr G9
  replace BM : Hid (At w8 w.heap.size #[.slice ra m.regs.length rc, .slice ca m.comps.length cc, .slice ga m.gates.length gc, .int .i64 m.depth]) := Hid.mk (K1.at_ BM.out (by omega))
  replace BX : Hid (At w8 hx #[.slice (some ⟨kr, 0, none⟩) m.regs.length (m.regs.length + 8), .slice (some ⟨kc, 0, none⟩) m.comps.length (m.comps.length + 8), .slice (some ⟨kg, 0, none⟩) m.gates.length (m.gates.length + 8), .int .i64 m.depth]) := Hid.mk (K1.at_ BX.out (by omega))
  replace BA : Hid (At w8 h1 #[.slice ra1 m.regs.length rc1, .slice ca1 m.comps.length cc1, .slice ga1 m.gates.length gc1, .int .i64 m.depth]) := Hid.mk (K1.at_ BA.out (by omega))
  replace BB : Hid (At w8 h2 #[.slice ra2 m.regs.length rc2, .slice ca2 m.comps.length cc2, .slice ga2 m.gates.length gc2, .int .i64 m.depth]) := Hid.mk (K1.at_ BB.out (by omega))
  replace O1 : Hid (ImgOwn l1 w8 (.slice ra1 m.regs.length rc1) (.slice ca1 m.comps.length cc1) (.slice ga1 m.gates.length gc1) m) := Hid.mk (img_kx K1 O1.out (by omega))
  replace O2 : Hid (ImgOwn l2 w8 (.slice ra2 m.regs.length rc2) (.slice ca2 m.comps.length cc2) (.slice ga2 m.gates.length gc2) m) := Hid.mk (img_kx K1 O2.out (by omega))
  replace hI := Hid.mk (LeIn.under hI.out G9.below)
  replace hX := Hid.mk (hX.out.bel G9.below)
  replace HA := Hid.mk (HA.out.kx K1 (by omega))
  replace hm : Hid (ImgIn w.heap.size w8 ra ca ga m) := Hid.mk (hm.out.below (K1.bel hB.out.size (by omega)))
  replace hB : Hid (Below w.heap.size w w8) := Hid.mk (hB.out.trans (K1.bel hB.out.size (by omega)))
  have sz_w8 := K1.size
  clear K1
  clear G9
  go_upto_region 6 with fail
  have b0 : w8.cell? ⟨h2, 0, none⟩ = some (.slice ra2 m.regs.length rc2) := BB.out.2.1 0
  have b1 : w8.cell? ⟨h2, 1, none⟩ = some (.slice ca2 m.comps.length cc2) := BB.out.2.1 1
  have b2 : w8.cell? ⟨h2, 2, none⟩ = some (.slice ga2 m.gates.length gc2) := BB.out.2.1 2
  have b3 : w8.cell? ⟨h2, 3, none⟩ = some (.int .i64 m.depth) := BB.out.2.1 3
  have m0 : w8.cell? ⟨w.heap.size, 0, none⟩ = some (.slice ra m.regs.length rc) := BM.out.2.1 0
  have m1 : w8.cell? ⟨w.heap.size, 1, none⟩ = some (.slice ca m.comps.length cc) := BM.out.2.1 1
  have m2 : w8.cell? ⟨w.heap.size, 2, none⟩ = some (.slice ga m.gates.length gc) := BM.out.2.1 2
  have m3 : w8.cell? ⟨w.heap.size, 3, none⟩ = some (.int .i64 m.depth) := BM.out.2.1 3
  go_wp2_with fail
  refine (same_any m m ra2 ca2 ga2 ra ca ga _ _ _ rc cc gc w8 O2.out.into (hm.out.mono hB.out.size) hrng.out).mono ?_
  rintro x w9 ⟨rfl, G9⟩
  clear b0 b1 b2 b3 m0 m1 m2 m3
  rw [(PImg.eqB_iff m m).2 rfl]
  have K1 := Kx.of_gr G9
  replace BM : Hid (At w9 w.heap.size #[.slice ra m.regs.length rc, .slice ca m.comps.length cc, .slice ga m.gates.length gc, .int .i64 m.depth]) := Hid.mk (K1.at_ BM.out (by omega))
  replace BX : Hid (At w9 hx #[.slice (some ⟨kr, 0, none⟩) m.regs.length (m.regs.length + 8), .slice (some ⟨kc, 0, none⟩) m.comps.length (m.comps.length + 8), .slice (some ⟨kg, 0, none⟩) m.gates.length (m.gates.length + 8), .int .i64 m.depth]) := Hid.mk (K1.at_ BX.out (by omega))
  replace BA : Hid (At w9 h1 #[.slice ra1 m.regs.length rc1, .slice ca1 m.comps.length cc1, .slice ga1 m.gates.length gc1, .int .i64 m.depth]) := Hid.mk (K1.at_ BA.out (by omega))
  replace BB : Hid (At w9 h2 #[.slice ra2 m.regs.length rc2, .slice ca2 m.comps.length cc2, .slice ga2 m.gates.length gc2, .int .i64 m.depth]) := Hid.mk (K1.at_ BB.out (by omega))
  replace O1 : Hid (ImgOwn l1 w9 (.slice ra1 m.regs.length rc1) (.slice ca1 m.comps.length cc1) (.slice ga1 m.gates.length gc1) m) := Hid.mk (img_kx K1 O1.out (by omega))
  replace O2 : Hid (ImgOwn l2 w9 (.slice ra2 m.regs.length rc2) (.slice ca2 m.comps.length cc2) (.slice ga2 m.gates.length gc2) m) := Hid.mk (img_kx K1 O2.out (by omega))
  replace hI := Hid.mk (LeIn.under hI.out G9.below)
  replace hX := Hid.mk (hX.out.bel G9.below)
  replace HA := Hid.mk (HA.out.kx K1 (by omega))
  replace hm : Hid (ImgIn w.heap.size w9 ra ca ga m) := Hid.mk (hm.out.below (K1.bel hB.out.size (by omega)))
  replace hB : Hid (Below w.heap.size w w9) := Hid.mk (hB.out.trans (K1.bel hB.out.size (by omega)))
  have sz_w9 := K1.size
  clear K1
  clear G9
  go_upto_region 7 with fail
  have x0 : w9.cell? ⟨hx, 0, none⟩ = some (.slice (some ⟨kr, 0, none⟩) m.regs.length (m.regs.length + 8)) := BX.out.2.1 0
  have x1 : w9.cell? ⟨hx, 1, none⟩ = some (.slice (some ⟨kc, 0, none⟩) m.comps.length (m.comps.length + 8)) := BX.out.2.1 1
  have x2 : w9.cell? ⟨hx, 2, none⟩ = some (.slice (some ⟨kg, 0, none⟩) m.gates.length (m.gates.length + 8)) := BX.out.2.1 2
  have x3 : w9.cell? ⟨hx, 3, none⟩ = some (.int .i64 m.depth) := BX.out.2.1 3
  go_wp2_with fail
  refine (spared_any m kk kr kc kg lr lc lg w9 hI.out hfit.out).mono ?_
  rintro x w10 ⟨rfl, G9⟩
  clear x0 x1 x2 x3
  have K1 := Kx.of_gr G9
  replace BM : Hid (At w10 w.heap.size #[.slice ra m.regs.length rc, .slice ca m.comps.length cc, .slice ga m.gates.length gc, .int .i64 m.depth]) := Hid.mk (K1.at_ BM.out (by omega))
  replace BX : Hid (At w10 hx #[.slice (some ⟨kr, 0, none⟩) m.regs.length (m.regs.length + 8), .slice (some ⟨kc, 0, none⟩) m.comps.length (m.comps.length + 8), .slice (some ⟨kg, 0, none⟩) m.gates.length (m.gates.length + 8), .int .i64 m.depth]) := Hid.mk (K1.at_ BX.out (by omega))
  replace BA : Hid (At w10 h1 #[.slice ra1 m.regs.length rc1, .slice ca1 m.comps.length cc1, .slice ga1 m.gates.length gc1, .int .i64 m.depth]) := Hid.mk (K1.at_ BA.out (by omega))
  replace BB : Hid (At w10 h2 #[.slice ra2 m.regs.length rc2, .slice ca2 m.comps.length cc2, .slice ga2 m.gates.length gc2, .int .i64 m.depth]) := Hid.mk (K1.at_ BB.out (by omega))
  replace O1 : Hid (ImgOwn l1 w10 (.slice ra1 m.regs.length rc1) (.slice ca1 m.comps.length cc1) (.slice ga1 m.gates.length gc1) m) := Hid.mk (img_kx K1 O1.out (by omega))
  replace O2 : Hid (ImgOwn l2 w10 (.slice ra2 m.regs.length rc2) (.slice ca2 m.comps.length cc2) (.slice ga2 m.gates.length gc2) m) := Hid.mk (img_kx K1 O2.out (by omega))
  replace hI := Hid.mk (LeIn.under hI.out G9.below)
  replace hX := Hid.mk (hX.out.bel G9.below)
  replace HA := Hid.mk (HA.out.kx K1 (by omega))
  replace hm : Hid (ImgIn w.heap.size w10 ra ca ga m) := Hid.mk (hm.out.below (K1.bel hB.out.size (by omega)))
  replace hB : Hid (Below w.heap.size w w10) := Hid.mk (hB.out.trans (K1.bel hB.out.size (by omega)))
  have sz_w10 := K1.size
  clear K1
  clear G9
  go_upto_region 8 with fail
  have x0 : w10.cell? ⟨hx, 0, none⟩ = some (.slice (some ⟨kr, 0, none⟩) m.regs.length (m.regs.length + 8)) := BX.out.2.1 0
  have x1 : w10.cell? ⟨hx, 1, none⟩ = some (.slice (some ⟨kc, 0, none⟩) m.comps.length (m.comps.length + 8)) := BX.out.2.1 1
  have x2 : w10.cell? ⟨hx, 2, none⟩ = some (.slice (some ⟨kg, 0, none⟩) m.gates.length (m.gates.length + 8)) := BX.out.2.1 2
  have x3 : w10.cell? ⟨hx, 3, none⟩ = some (.int .i64 m.depth) := BX.out.2.1 3
  go_wp2_with fail
  refine (overW_any lx hx kr kc kg m.regs.length m.comps.length m.gates.length (some ⟨kr, 0, none⟩) (some ⟨kc, 0, none⟩) (some ⟨kg, 0, none⟩) _ _ _ m.depth w10 hX.out (by omega) q0 q1 q2).mono ?_
  rintro x w11 ⟨rfl, WA, GA, hW⟩
  clear x0 x1 x2 x3
  clear hX hI
  have K1 := Kx.of_wr GA hW
  clear BX
  replace BM : Hid (At w11 w.heap.size #[.slice ra m.regs.length rc, .slice ca m.comps.length cc, .slice ga m.gates.length gc, .int .i64 m.depth]) := Hid.mk (K1.at_ BM.out (by omega))
  replace BA : Hid (At w11 h1 #[.slice ra1 m.regs.length rc1, .slice ca1 m.comps.length cc1, .slice ga1 m.gates.length gc1, .int .i64 m.depth]) := Hid.mk (K1.at_ BA.out (by omega))
  replace BB : Hid (At w11 h2 #[.slice ra2 m.regs.length rc2, .slice ca2 m.comps.length cc2, .slice ga2 m.gates.length gc2, .int .i64 m.depth]) := Hid.mk (K1.at_ BB.out (by omega))
  replace O1 : Hid (ImgOwn l1 w11 (.slice ra1 m.regs.length rc1) (.slice ca1 m.comps.length cc1) (.slice ga1 m.gates.length gc1) m) := Hid.mk (img_kx K1 O1.out (by omega))
  replace O2 : Hid (ImgOwn l2 w11 (.slice ra2 m.regs.length rc2) (.slice ca2 m.comps.length cc2) (.slice ga2 m.gates.length gc2) m) := Hid.mk (img_kx K1 O2.out (by omega))
  replace HA := Hid.mk (HA.out.kx K1 (by omega))
  replace hm : Hid (ImgIn w.heap.size w11 ra ca ga m) := Hid.mk (hm.out.below (K1.bel hB.out.size (by omega)))
  replace hB : Hid (Below w.heap.size w w11) := Hid.mk (hB.out.trans (K1.bel hB.out.size (by omega)))
  have sz_w11 := K1.size
  clear K1
  clear GA hW
  go_upto_region 9 with fail
  have a0 : w11.cell? ⟨h1, 0, none⟩ = some (.slice ra1 m.regs.length rc1) := BA.out.2.1 0
  have a1 : w11.cell? ⟨h1, 1, none⟩ = some (.slice ca1 m.comps.length cc1) := BA.out.2.1 1
  have a2 : w11.cell? ⟨h1, 2, none⟩ = some (.slice ga1 m.gates.length gc1) := BA.out.2.1 2
  have a3 : w11.cell? ⟨h1, 3, none⟩ = some (.int .i64 m.depth) := BA.out.2.1 3
  have m0 : w11.cell? ⟨w.heap.size, 0, none⟩ = some (.slice ra m.regs.length rc) := BM.out.2.1 0
  have m1 : w11.cell? ⟨w.heap.size, 1, none⟩ = some (.slice ca m.comps.length cc) := BM.out.2.1 1
  have m2 : w11.cell? ⟨w.heap.size, 2, none⟩ = some (.slice ga m.gates.length gc) := BM.out.2.1 2
  have m3 : w11.cell? ⟨w.heap.size, 3, none⟩ = some (.int .i64 m.depth) := BM.out.2.1 3
  go_wp2_with fail
  refine (same_any m m ra1 ca1 ga1 ra ca ga _ _ _ rc cc gc w11 O1.out.into (hm.out.mono hB.out.size) hrng.out).mono ?_
  rintro x w12 ⟨rfl, G9⟩
  clear a0 a1 a2 a3 m0 m1 m2 m3
  rw [(PImg.eqB_iff m m).2 rfl]
  have K1 := Kx.of_gr G9
  replace BM : Hid (At w12 w.heap.size #[.slice ra m.regs.length rc, .slice ca m.comps.length cc, .slice ga m.gates.length gc, .int .i64 m.depth]) := Hid.mk (K1.at_ BM.out (by omega))
  replace BA : Hid (At w12 h1 #[.slice ra1 m.regs.length rc1, .slice ca1 m.comps.length cc1, .slice ga1 m.gates.length gc1, .int .i64 m.depth]) := Hid.mk (K1.at_ BA.out (by omega))
  replace BB : Hid (At w12 h2 #[.slice ra2 m.regs.length rc2, .slice ca2 m.comps.length cc2, .slice ga2 m.gates.length gc2, .int .i64 m.depth]) := Hid.mk (K1.at_ BB.out (by omega))
  replace O1 : Hid (ImgOwn l1 w12 (.slice ra1 m.regs.length rc1) (.slice ca1 m.comps.length cc1) (.slice ga1 m.gates.length gc1) m) := Hid.mk (img_kx K1 O1.out (by omega))
  replace O2 : Hid (ImgOwn l2 w12 (.slice ra2 m.regs.length rc2) (.slice ca2 m.comps.length cc2) (.slice ga2 m.gates.length gc2) m) := Hid.mk (img_kx K1 O2.out (by omega))
  replace HA := Hid.mk (HA.out.kx K1 (by omega))
  replace hm : Hid (ImgIn w.heap.size w12 ra ca ga m) := Hid.mk (hm.out.below (K1.bel hB.out.size (by omega)))
  replace hB : Hid (Below w.heap.size w w12) := Hid.mk (hB.out.trans (K1.bel hB.out.size (by omega)))
  have sz_w12 := K1.size
  clear K1
  clear G9
  go_upto_region 12 with fail
  have a0 : w12.cell? ⟨h1, 0, none⟩ = some (.slice ra1 m.regs.length rc1) := BA.out.2.1 0
  have a1 : w12.cell? ⟨h1, 1, none⟩ = some (.slice ca1 m.comps.length cc1) := BA.out.2.1 1
  have a2 : w12.cell? ⟨h1, 2, none⟩ = some (.slice ga1 m.gates.length gc1) := BA.out.2.1 2
  have a3 : w12.cell? ⟨h1, 3, none⟩ = some (.int .i64 m.depth) := BA.out.2.1 3
  go_wp2_with fail
  refine (Copy_any m ra1 ca1 ga1 _ _ _ w12 O1.out.into hfits.out).mono ?_
  rintro x w13 ⟨ra3, rc3, ca3, cc3, ga3, gc3, rfl, hO, hK⟩
  clear a0 a1 a2 a3
  have O3 : Hid (ImgOwn w12.heap.size w13 (.slice ra3 m.regs.length rc3) (.slice ca3 m.comps.length cc3) (.slice ga3 m.gates.length gc3) m) := Hid.mk hO
  clear hO
  generalize hl3 : w12.heap.size = l3 at O3
  have K1 := Kx.of_below hK
  replace BM : Hid (At w13 w.heap.size #[.slice ra m.regs.length rc, .slice ca m.comps.length cc, .slice ga m.gates.length gc, .int .i64 m.depth]) := Hid.mk (K1.at_ BM.out (by omega))
  replace BA : Hid (At w13 h1 #[.slice ra1 m.regs.length rc1, .slice ca1 m.comps.length cc1, .slice ga1 m.gates.length gc1, .int .i64 m.depth]) := Hid.mk (K1.at_ BA.out (by omega))
  replace BB : Hid (At w13 h2 #[.slice ra2 m.regs.length rc2, .slice ca2 m.comps.length cc2, .slice ga2 m.gates.length gc2, .int .i64 m.depth]) := Hid.mk (K1.at_ BB.out (by omega))
  replace O1 : Hid (ImgOwn l1 w13 (.slice ra1 m.regs.length rc1) (.slice ca1 m.comps.length cc1) (.slice ga1 m.gates.length gc1) m) := Hid.mk (img_kx K1 O1.out (by omega))
  replace O2 : Hid (ImgOwn l2 w13 (.slice ra2 m.regs.length rc2) (.slice ca2 m.comps.length cc2) (.slice ga2 m.gates.length gc2) m) := Hid.mk (img_kx K1 O2.out (by omega))
  replace HA := Hid.mk (HA.out.kx K1 (by omega))
  replace hm : Hid (ImgIn w.heap.size w13 ra ca ga m) := Hid.mk (hm.out.below (K1.bel hB.out.size (by omega)))
  replace hB : Hid (Below w.heap.size w w13) := Hid.mk (hB.out.trans (K1.bel hB.out.size (by omega)))
  have sz_w13 := K1.size
  clear K1
  clear hK
  generalize hh3 : w13.heap.size = h3 at *
  have hlh3 : l3 ≤ h3 := by omega
  go_upto_region 13 with fail
  refine wp_world (fun W => At W h3 #[.slice ra3 m.regs.length rc3, .slice ca3 m.comps.length cc3, .slice ga3 m.gates.length gc3, .int .i64 m.depth] ∧ Gr w13 W) ⟨by rw [← hh3]; exact At.new w13 _ _, (Gr.refl _).alloc _⟩ ?_
  rintro W14 ⟨BN, GN⟩
  have K1 := Kx.of_gr GN
  replace BM : Hid (At W14 w.heap.size #[.slice ra m.regs.length rc, .slice ca m.comps.length cc, .slice ga m.gates.length gc, .int .i64 m.depth]) := Hid.mk (K1.at_ BM.out (by omega))
  replace BA : Hid (At W14 h1 #[.slice ra1 m.regs.length rc1, .slice ca1 m.comps.length cc1, .slice ga1 m.gates.length gc1, .int .i64 m.depth]) := Hid.mk (K1.at_ BA.out (by omega))
  replace BB : Hid (At W14 h2 #[.slice ra2 m.regs.length rc2, .slice ca2 m.comps.length cc2, .slice ga2 m.gates.length gc2, .int .i64 m.depth]) := Hid.mk (K1.at_ BB.out (by omega))
  replace O1 : Hid (ImgOwn l1 W14 (.slice ra1 m.regs.length rc1) (.slice ca1 m.comps.length cc1) (.slice ga1 m.gates.length gc1) m) := Hid.mk (img_kx K1 O1.out (by omega))
  replace O2 : Hid (ImgOwn l2 W14 (.slice ra2 m.regs.length rc2) (.slice ca2 m.comps.length cc2) (.slice ga2 m.gates.length gc2) m) := Hid.mk (img_kx K1 O2.out (by omega))
  replace O3 : Hid (ImgOwn l3 W14 (.slice ra3 m.regs.length rc3) (.slice ca3 m.comps.length cc3) (.slice ga3 m.gates.length gc3) m) := Hid.mk (img_kx K1 O3.out (by omega))
  replace HA := Hid.mk (HA.out.kx K1 (by omega))
  replace hm : Hid (ImgIn w.heap.size W14 ra ca ga m) := Hid.mk (hm.out.below (K1.bel hB.out.size (by omega)))
  replace hB : Hid (Below w.heap.size w W14) := Hid.mk (hB.out.trans (K1.bel hB.out.size (by omega)))
  have sz_W14 := K1.size
  clear K1
  clear GN
  have kl_ : h3 < W14.heap.size := BN.1
  have BL : Hid (At W14 h3 #[.slice ra3 m.regs.length rc3, .slice ca3 m.comps.length cc3, .slice ga3 m.gates.length gc3, .int .i64 m.depth]) := Hid.mk BN
  clear BN
  clear O1
  have a0 : W14.cell? ⟨h1, 0, none⟩ = some (.slice ra1 m.regs.length rc1) := BA.out.2.1 0
  have a1 : W14.cell? ⟨h1, 1, none⟩ = some (.slice ca1 m.comps.length cc1) := BA.out.2.1 1
  have a2 : W14.cell? ⟨h1, 2, none⟩ = some (.slice ga1 m.gates.length gc1) := BA.out.2.1 2
  have a3 : W14.cell? ⟨h1, 3, none⟩ = some (.int .i64 m.depth) := BA.out.2.1 3
  go_wp2_with fail
  refine (grown_any l1 h1 jr jc jg m.regs.length m.comps.length m.gates.length ra1 ca1 ga1 _ _ _ m.depth W14 HA.out (by omega) (by omega) q0 q1 q2).mono ?_
  rintro x w15 ⟨rfl, WA, GA, hW⟩
  clear a0 a1 a2 a3
  have sWA := GA.below.size
  have HB := Hid.mk (Hdr.wr (HA.out.grG GA) hW (by omega))
  have K1 := Kx.of_wr GA hW
  clear HA
  replace BM : Hid (At w15 w.heap.size #[.slice ra m.regs.length rc, .slice ca m.comps.length cc, .slice ga m.gates.length gc, .int .i64 m.depth]) := Hid.mk (K1.at_ BM.out (by omega))
  replace BA : Hid (At w15 h1 #[.slice ra1 m.regs.length rc1, .slice ca1 m.comps.length cc1, .slice ga1 m.gates.length gc1, .int .i64 m.depth]) := Hid.mk (K1.at_ BA.out (by omega))
  replace BB : Hid (At w15 h2 #[.slice ra2 m.regs.length rc2, .slice ca2 m.comps.length cc2, .slice ga2 m.gates.length gc2, .int .i64 m.depth]) := Hid.mk (K1.at_ BB.out (by omega))
  replace BL : Hid (At w15 h3 #[.slice ra3 m.regs.length rc3, .slice ca3 m.comps.length cc3, .slice ga3 m.gates.length gc3, .int .i64 m.depth]) := Hid.mk (K1.at_ BL.out (by omega))
  replace O2 : Hid (ImgOwn l2 w15 (.slice ra2 m.regs.length rc2) (.slice ca2 m.comps.length cc2) (.slice ga2 m.gates.length gc2) m) := Hid.mk (img_kx K1 O2.out (by omega))
  replace O3 : Hid (ImgOwn l3 w15 (.slice ra3 m.regs.length rc3) (.slice ca3 m.comps.length cc3) (.slice ga3 m.gates.length gc3) m) := Hid.mk (img_kx K1 O3.out (by omega))
  replace hm : Hid (ImgIn w.heap.size w15 ra ca ga m) := Hid.mk (hm.out.below (K1.bel hB.out.size (by omega)))
  replace hB : Hid (Below w.heap.size w w15) := Hid.mk (hB.out.trans (K1.bel hB.out.size (by omega)))
  have sz_w15 := K1.size
  clear K1
  clear GA hW
  go_upto_region 14 with fail
  have a0 : w15.cell? ⟨h1, 0, none⟩ = some (.slice ra1 m.regs.length rc1) := BA.out.2.1 0
  have a1 : w15.cell? ⟨h1, 1, none⟩ = some (.slice ca1 m.comps.length cc1) := BA.out.2.1 1
  have a2 : w15.cell? ⟨h1, 2, none⟩ = some (.slice ga1 m.gates.length gc1) := BA.out.2.1 2
  have a3 : w15.cell? ⟨h1, 3, none⟩ = some (.int .i64 m.depth) := BA.out.2.1 3
  go_wp2_with fail
  refine (overW_any l1 h1 jr jc jg m.regs.length m.comps.length m.gates.length ra1 ca1 ga1 _ _ _ m.depth w15 HB.out (by omega) q0 q1 q2).mono ?_
  rintro x w16 ⟨rfl, WB, GB, hW⟩
  clear a0 a1 a2 a3
  clear HB BA
  have K1 := Kx.of_wr GB hW
  replace BM : Hid (At w16 w.heap.size #[.slice ra m.regs.length rc, .slice ca m.comps.length cc, .slice ga m.gates.length gc, .int .i64 m.depth]) := Hid.mk (K1.at_ BM.out (by omega))
  replace BB : Hid (At w16 h2 #[.slice ra2 m.regs.length rc2, .slice ca2 m.comps.length cc2, .slice ga2 m.gates.length gc2, .int .i64 m.depth]) := Hid.mk (K1.at_ BB.out (by omega))
  replace BL : Hid (At w16 h3 #[.slice ra3 m.regs.length rc3, .slice ca3 m.comps.length cc3, .slice ga3 m.gates.length gc3, .int .i64 m.depth]) := Hid.mk (K1.at_ BL.out (by omega))
  replace O2 : Hid (ImgOwn l2 w16 (.slice ra2 m.regs.length rc2) (.slice ca2 m.comps.length cc2) (.slice ga2 m.gates.length gc2) m) := Hid.mk (img_kx K1 O2.out (by omega))
  replace O3 : Hid (ImgOwn l3 w16 (.slice ra3 m.regs.length rc3) (.slice ca3 m.comps.length cc3) (.slice ga3 m.gates.length gc3) m) := Hid.mk (img_kx K1 O3.out (by omega))
  replace hm : Hid (ImgIn w.heap.size w16 ra ca ga m) := Hid.mk (hm.out.below (K1.bel hB.out.size (by omega)))
  replace hB : Hid (Below w.heap.size w w16) := Hid.mk (hB.out.trans (K1.bel hB.out.size (by omega)))
  have sz_w16 := K1.size
  clear K1
  clear GB hW
  go_upto_region 15 with fail
  have l0 : w16.cell? ⟨h3, 0, none⟩ = some (.slice ra3 m.regs.length rc3) := BL.out.2.1 0
  have l1 : w16.cell? ⟨h3, 1, none⟩ = some (.slice ca3 m.comps.length cc3) := BL.out.2.1 1
  have l2 : w16.cell? ⟨h3, 2, none⟩ = some (.slice ga3 m.gates.length gc3) := BL.out.2.1 2
  have l3 : w16.cell? ⟨h3, 3, none⟩ = some (.int .i64 m.depth) := BL.out.2.1 3
  have m0 : w16.cell? ⟨w.heap.size, 0, none⟩ = some (.slice ra m.regs.length rc) := BM.out.2.1 0
  have m1 : w16.cell? ⟨w.heap.size, 1, none⟩ = some (.slice ca m.comps.length cc) := BM.out.2.1 1
  have m2 : w16.cell? ⟨w.heap.size, 2, none⟩ = some (.slice ga m.gates.length gc) := BM.out.2.1 2
  have m3 : w16.cell? ⟨w.heap.size, 3, none⟩ = some (.int .i64 m.depth) := BM.out.2.1 3
  go_wp2_with fail
  refine (same_any m m ra3 ca3 ga3 ra ca ga _ _ _ rc cc gc w16 O3.out.into (hm.out.mono hB.out.size) hrng.out).mono ?_
  rintro x w17 ⟨rfl, G9⟩
  clear l0 l1 l2 l3 m0 m1 m2 m3
  rw [(PImg.eqB_iff m m).2 rfl]
  have K1 := Kx.of_gr G9
  replace BM : Hid (At w17 w.heap.size #[.slice ra m.regs.length rc, .slice ca m.comps.length cc, .slice ga m.gates.length gc, .int .i64 m.depth]) := Hid.mk (K1.at_ BM.out (by omega))
  replace BB : Hid (At w17 h2 #[.slice ra2 m.regs.length rc2, .slice ca2 m.comps.length cc2, .slice ga2 m.gates.length gc2, .int .i64 m.depth]) := Hid.mk (K1.at_ BB.out (by omega))
  replace BL : Hid (At w17 h3 #[.slice ra3 m.regs.length rc3, .slice ca3 m.comps.length cc3, .slice ga3 m.gates.length gc3, .int .i64 m.depth]) := Hid.mk (K1.at_ BL.out (by omega))
  replace O2 : Hid (ImgOwn l2 w17 (.slice ra2 m.regs.length rc2) (.slice ca2 m.comps.length cc2) (.slice ga2 m.gates.length gc2) m) := Hid.mk (img_kx K1 O2.out (by omega))
  replace O3 : Hid (ImgOwn l3 w17 (.slice ra3 m.regs.length rc3) (.slice ca3 m.comps.length cc3) (.slice ga3 m.gates.length gc3) m) := Hid.mk (img_kx K1 O3.out (by omega))
  replace hm : Hid (ImgIn w.heap.size w17 ra ca ga m) := Hid.mk (hm.out.below (K1.bel hB.out.size (by omega)))
  replace hB : Hid (Below w.heap.size w w17) := Hid.mk (hB.out.trans (K1.bel hB.out.size (by omega)))
  have sz_w17 := K1.size
  clear K1
  clear G9
  go_upto_region 16 with fail
  have b0 : w17.cell? ⟨h2, 0, none⟩ = some (.slice ra2 m.regs.length rc2) := BB.out.2.1 0
  have b1 : w17.cell? ⟨h2, 1, none⟩ = some (.slice ca2 m.comps.length cc2) := BB.out.2.1 1
  have b2 : w17.cell? ⟨h2, 2, none⟩ = some (.slice ga2 m.gates.length gc2) := BB.out.2.1 2
  have b3 : w17.cell? ⟨h2, 3, none⟩ = some (.int .i64 m.depth) := BB.out.2.1 3
  have m0 : w17.cell? ⟨w.heap.size, 0, none⟩ = some (.slice ra m.regs.length rc) := BM.out.2.1 0
  have m1 : w17.cell? ⟨w.heap.size, 1, none⟩ = some (.slice ca m.comps.length cc) := BM.out.2.1 1
  have m2 : w17.cell? ⟨w.heap.size, 2, none⟩ = some (.slice ga m.gates.length gc) := BM.out.2.1 2
  have m3 : w17.cell? ⟨w.heap.size, 3, none⟩ = some (.int .i64 m.depth) := BM.out.2.1 3
  go_wp2_with fail
  refine (same_any m m ra2 ca2 ga2 ra ca ga _ _ _ rc cc gc w17 O2.out.into (hm.out.mono hB.out.size) hrng.out).mono ?_
  rintro x w18 ⟨rfl, G9⟩
  clear b0 b1 b2 b3 m0 m1 m2 m3
  rw [(PImg.eqB_iff m m).2 rfl]
  have K1 := Kx.of_gr G9
  replace BM : Hid (At w18 w.heap.size #[.slice ra m.regs.length rc, .slice ca m.comps.length cc, .slice ga m.gates.length gc, .int .i64 m.depth]) := Hid.mk (K1.at_ BM.out (by omega))
  replace BB : Hid (At w18 h2 #[.slice ra2 m.regs.length rc2, .slice ca2 m.comps.length cc2, .slice ga2 m.gates.length gc2, .int .i64 m.depth]) := Hid.mk (K1.at_ BB.out (by omega))
  replace BL : Hid (At w18 h3 #[.slice ra3 m.regs.length rc3, .slice ca3 m.comps.length cc3, .slice ga3 m.gates.length gc3, .int .i64 m.depth]) := Hid.mk (K1.at_ BL.out (by omega))
  replace O2 : Hid (ImgOwn l2 w18 (.slice ra2 m.regs.length rc2) (.slice ca2 m.comps.length cc2) (.slice ga2 m.gates.length gc2) m) := Hid.mk (img_kx K1 O2.out (by omega))
  replace O3 : Hid (ImgOwn l3 w18 (.slice ra3 m.regs.length rc3) (.slice ca3 m.comps.length cc3) (.slice ga3 m.gates.length gc3) m) := Hid.mk (img_kx K1 O3.out (by omega))
  replace hm : Hid (ImgIn w.heap.size w18 ra ca ga m) := Hid.mk (hm.out.below (K1.bel hB.out.size (by omega)))
  replace hB : Hid (Below w.heap.size w w18) := Hid.mk (hB.out.trans (K1.bel hB.out.size (by omega)))
  have sz_w18 := K1.size
  clear K1
  clear G9
  go_upto_region 17 with fail
  clear BM BB BL O2 O3 hm
  go_wp2_with fail
  go_ret
  exact ⟨by simp, hB.out⟩
end Q
end Go.Proofs.YtcljibdikhpnlaaDoor
