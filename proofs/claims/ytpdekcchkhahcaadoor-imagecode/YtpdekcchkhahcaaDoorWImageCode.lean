import Derived.Test.YtpdekcchkhahcaaDoorP24
import Derived.Test.YtpdekcchkhahcaaDoorP25
import Derived.Test.YtpdekcchkhahcaaDoorP11
import Derived.Test.YtpdekcchkhahcaaDoorP27
/-
  Stage 4, image: the walk of the statement on CodeCap.
-/
namespace Go.Proofs.YtpdekcchkhahcaaDoor
namespace Q
open Go.RowKit

theorem At.under {w w1 : World} {B k : Nat} {cs : Array Value} (h : At w k cs) (hb : Below B w w1) (hk : k < B) : At w1 k cs :=
  ⟨Nat.lt_of_lt_of_le h.1 hb.size, fun i => by rw [World.cell?_of_block (a := ⟨k, i, none⟩) (hb.block k hk)]; exact h.2.1 i, fun i => by rw [World.frozen?_of_block (a := ⟨k, i, none⟩) (hb.block k hk)]; exact h.2.2 i⟩
theorem marked_at {α : Type} {M : α} {L : List α} (i : Nat) (hi : i < L.length) : (marked M L)[i]? = some L[i] := by
  unfold marked
  rw [List.getElem?_append_left hi, List.getElem?_eq_getElem hi]
theorem LsOk.fin {α : Type} {vals : α → List Value} {M : α} {kk k : Nat} {W : World} {L : List α} {s : Sl} (hk : ∀ x, (vals x).length = k) (h : LsOk vals M kk W L s) : FIn k vals W.heap.size W s.a L := by
  obtain ⟨g, rfl, _, hA⟩ := h
  intro i hi
  refine ⟨g, 0, rfl, hA.1, hA.1, fun j hj => ?_⟩
  have hj' : j < (vals L[i]).length := by rw [hk]; exact hj
  rw [List.getElem?_eq_getElem hj', Nat.zero_add]
  exact elem_at hk hA i _ (marked_at i hi) j _ (List.getElem?_eq_getElem hj')
theorem LsOk.lin {M : Ins} {kk : Nat} {W : World} {L : List Ins} {s : Sl} (h : LsOk Ins.vals M kk W L s) : LIn W.heap.size W s.a L := by
  obtain ⟨g, rfl, _, hA⟩ := h
  intro i hi
  have q := elem_at (k := 5) (fun _ => rfl) hA i _ (marked_at i hi)
  refine ⟨g, 0, rfl, hA.1, hA.1, ?_⟩
  rw [Nat.zero_add]
  exact ⟨q 0 _ rfl, q 1 _ rfl, q 2 _ rfl, q 3 _ rfl, q 4 _ rfl⟩
theorem TwIn.comps {kk kr kc kg : Nat} {W : World} {m : PImg} {lr : List RgV} {lc : List CpV} {lg : List GtV} (h : TwIn kk kr kc kg W m lr lc lg) : CompIn W.heap.size W (some ⟨kc, 0, none⟩) m.comps := by
  intro i hi
  obtain ⟨v, hv, hok⟩ := (h.cd i (by omega)).1 hi
  have q := elem_at cp_len h.c i _ hv
  have e1 : v.r.l = m.comps[i].roots.length := by obtain ⟨g, e, _⟩ := hok.1; rw [e]
  have e2 : v.k.l = m.comps[i].code.length := by obtain ⟨g, e, _⟩ := hok.2; rw [e]
  refine ⟨kc, 0, v.r.a, v.r.c, v.k.a, v.k.c, rfl, h.c.1, h.c.1, ?_, ?_, hok.1.fin (fun _ => rfl), hok.2.lin⟩
  · rw [Nat.zero_add, ← e1]; exact q 0 _ rfl
  · rw [Nat.zero_add, ← e2]; exact q 1 _ rfl
theorem cc_one (L : List PComp) (c e : Int) : ∃ v0 v1 v2 v3 v4 : Int, ccV L c e = [.int .u64 v0, .int .u64 v1, .int .u64 v2, .int .u8 v3, .int .i64 v4] := by
  unfold ccV
  split
  · exact ⟨_, _, _, _, _, rfl⟩
  · exact ⟨_, _, _, _, _, rfl⟩
set_option maxRecDepth 100000 in
set_option maxHeartbeats 8000000 in
theorem walk_ImageCode (m : PImg) (ra ca ga : Option Addr) (rc cc gc : Nat) (c e : Int) (w : World) (ht : TabIn w) (hm : ImgIn w.heap.size w ra ca ga m) (hF : m.Fit) (_hc : J64 c) (_he : J64 e) :
    Calls Tryd.prog 3 #[.agg #[.slice ra m.regs.length rc, .slice ca m.comps.length cc, .slice ga m.gates.length gc, .int .i64 m.depth], .int .i64 c, .int .i64 e] w fun x w' => x = .returned (.bool true) ∧ Below w.heap.size w w' := by
  have hfit := Hid.mk hF.tw
  have hrng := hF.rng
  have hl : m.comps.length ≤ maxG := hrng.comps.1
  have hk : ∀ k ∈ m.comps, k.code.length ≤ maxI := fun k q => (hrng.comps.2 k q).2.1
  replace hl := Hid.mk hl
  replace hk := Hid.mk hk
  clear hF hrng
  replace hm := Hid.mk hm
  replace ht := Hid.mk ht
  go_enter Tryd.func3, Tryd.ntmps3
  go_upto_region 1 with fail
  refine wp_world (fun W => At W w.heap.size #[.slice ra m.regs.length rc, .slice ca m.comps.length cc, .slice ga m.gates.length gc, .int .i64 m.depth] ∧ Gr w W) ⟨At.new w _ _, (Gr.refl w).alloc _⟩ ?_
  rintro W0 ⟨BM, G0⟩
  replace BM := Hid.mk BM
  replace G0 := Hid.mk G0
  go_wp2_with fail
  refine (examples_any W0 (ht.out.gr G0.out)).mono ?_
  rintro x w1 ⟨rfl, hB1⟩
  have hs : w.heap.size < W0.heap.size := BM.out.1
  replace BM := Hid.mk (At.under BM.out hB1 hs)
  have hB : Below w.heap.size w w1 := G0.out.below.trans (hB1.mono (Nat.le_of_lt hs))
  clear hB1 hs G0 ht
  replace hm : Hid (ImgIn w.heap.size w1 ra ca ga m) := Hid.mk (hm.out.below hB)
  replace hB := Hid.mk hB
  have c0 : w1.cell? ⟨w.heap.size, 0, none⟩ = some (.slice ra m.regs.length rc) := BM.out.2.1 0
  have c1 : w1.cell? ⟨w.heap.size, 1, none⟩ = some (.slice ca m.comps.length cc) := BM.out.2.1 1
  have c2 : w1.cell? ⟨w.heap.size, 2, none⟩ = some (.slice ga m.gates.length gc) := BM.out.2.1 2
  have c3 : w1.cell? ⟨w.heap.size, 3, none⟩ = some (.int .i64 m.depth) := BM.out.2.1 3
  go_wp2_with fail
  refine (Twin_any m ra ca ga rc cc gc w1 (hm.out.mono hB.out.size) hfit.out).mono ?_
  rintro x w2 ⟨rfl, G2, lr, lc, lg, hT⟩
  clear c0 c1 c2 c3
  replace BM := Hid.mk (BM.out.gr G2)
  generalize w1.heap.size + 1 + 1 + 1 + 1 + 1 = kg at *
  generalize w1.heap.size + 1 + 1 + 1 + 1 = kc at *
  generalize w1.heap.size + 1 + 1 + 1 = kr at *
  go_upto_region 3 with fail
  refine wp_world (fun W => At W w2.heap.size #[.slice (some ⟨kr, 0, none⟩) m.regs.length (m.regs.length + 8), .slice (some ⟨kc, 0, none⟩) m.comps.length (m.comps.length + 8), .slice (some ⟨kg, 0, none⟩) m.gates.length (m.gates.length + 8), .int .i64 m.depth] ∧ At W w.heap.size #[.slice ra m.regs.length rc, .slice ca m.comps.length cc, .slice ga m.gates.length gc, .int .i64 m.depth] ∧ Gr w2 W)
    ⟨At.new w2 _ _,
      BM.out.alloc _,
      (Gr.refl _).alloc _⟩ ?_
  rintro W3 ⟨BT, BM3, G3⟩
  clear BM
  have BM := Hid.mk BM3
  clear BM3
  replace BT := Hid.mk BT
  replace hT := Hid.mk (hT.gr G3)
  replace hm : Hid (ImgIn w.heap.size W3 ra ca ga m) := Hid.mk (hm.out.below (gr_below (G2.trans G3) hB.out.size))
  replace hB := Hid.mk (hB.out.trans (gr_below (G2.trans G3) hB.out.size))
  clear G2 G3
  generalize w2.heap.size = kt at *
  have c0 : W3.cell? ⟨kt, 0, none⟩ = some (.slice (some ⟨kr, 0, none⟩) m.regs.length (m.regs.length + 8)) := BT.out.2.1 0
  have c1 : W3.cell? ⟨kt, 1, none⟩ = some (.slice (some ⟨kc, 0, none⟩) m.comps.length (m.comps.length + 8)) := BT.out.2.1 1
  have c2 : W3.cell? ⟨kt, 2, none⟩ = some (.slice (some ⟨kg, 0, none⟩) m.gates.length (m.gates.length + 8)) := BT.out.2.1 2
  have c3 : W3.cell? ⟨kt, 3, none⟩ = some (.int .i64 m.depth) := BT.out.2.1 3
  go_wp2_with fail
  refine (CodeCap_any m c e (some ⟨kr, 0, none⟩) (some ⟨kc, 0, none⟩) (some ⟨kg, 0, none⟩) _ _ _ _ _ W3 hT.out.comps hl.out hk.out).mono ?_
  rintro x w4 ⟨rfl, G4⟩
  clear c0 c1 c2 c3
  obtain ⟨n0, n1, n2, n3, n4, hcc⟩ := cc_one m.comps c e
  have hR := fun W h => refCodeCap_any m c e ra ca ga m.regs.length rc cc m.gates.length gc W h hfit.out.c hk.out
  rw [hcc] at hR ⊢
  clear hcc
  generalize hasI m.comps c e = bq at *
  replace hR := Hid.mk hR
  replace BM := Hid.mk (BM.out.gr G4)
  replace BT := Hid.mk (BT.out.gr G4)
  go_upto_region 4 with fail
  refine wp_world (fun W => At W w4.heap.size #[.int .u64 n0, .int .u64 n1, .int .u64 n2, .int .u8 n3, .int .i64 n4] ∧ At W kt #[.slice (some ⟨kr, 0, none⟩) m.regs.length (m.regs.length + 8), .slice (some ⟨kc, 0, none⟩) m.comps.length (m.comps.length + 8), .slice (some ⟨kg, 0, none⟩) m.gates.length (m.gates.length + 8), .int .i64 m.depth] ∧ At W w.heap.size #[.slice ra m.regs.length rc, .slice ca m.comps.length cc, .slice ga m.gates.length gc, .int .i64 m.depth] ∧ Gr w4 W)
    ⟨At.new w4 _ _,
      BT.out.alloc _,
      BM.out.alloc _,
      (Gr.refl _).alloc _⟩ ?_
  rintro W5 ⟨BC, BT5, BM5, G5⟩
  clear BM BT
  have BM := Hid.mk BM5
  have BT := Hid.mk BT5
  clear BM5 BT5
  replace BC := Hid.mk BC
  replace hT := Hid.mk (hT.out.gr (G4.trans G5))
  replace hm : Hid (ImgIn w.heap.size W5 ra ca ga m) := Hid.mk (hm.out.below (gr_below (G4.trans G5) hB.out.size))
  replace hB := Hid.mk (hB.out.trans (gr_below (G4.trans G5) hB.out.size))
  clear G4 G5
  generalize w4.heap.size = kb at *
  have c0 : W5.cell? ⟨w.heap.size, 0, none⟩ = some (.slice ra m.regs.length rc) := BM.out.2.1 0
  have c1 : W5.cell? ⟨w.heap.size, 1, none⟩ = some (.slice ca m.comps.length cc) := BM.out.2.1 1
  have c2 : W5.cell? ⟨w.heap.size, 2, none⟩ = some (.slice ga m.gates.length gc) := BM.out.2.1 2
  have c3 : W5.cell? ⟨w.heap.size, 3, none⟩ = some (.int .i64 m.depth) := BM.out.2.1 3
  go_wp2_with fail
  refine (hR.out W5 (hm.out.comps.mono hB.out.size)).mono ?_
  rintro x w6 ⟨rfl, G6⟩
  clear c0 c1 c2 c3 hR
  replace BM := Hid.mk (BM.out.gr G6)
  replace BT := Hid.mk (BT.out.gr G6)
  replace BC := Hid.mk (BC.out.gr G6)
  go_upto_region 5 with fail
  refine wp_world (fun W => At W w6.heap.size #[.int .u64 n0, .int .u64 n1, .int .u64 n2, .int .u8 n3, .int .i64 n4] ∧ At W kb #[.int .u64 n0, .int .u64 n1, .int .u64 n2, .int .u8 n3, .int .i64 n4] ∧ At W kt #[.slice (some ⟨kr, 0, none⟩) m.regs.length (m.regs.length + 8), .slice (some ⟨kc, 0, none⟩) m.comps.length (m.comps.length + 8), .slice (some ⟨kg, 0, none⟩) m.gates.length (m.gates.length + 8), .int .i64 m.depth] ∧ At W w.heap.size #[.slice ra m.regs.length rc, .slice ca m.comps.length cc, .slice ga m.gates.length gc, .int .i64 m.depth] ∧ Gr w6 W)
    ⟨At.new w6 _ _,
      BC.out.alloc _,
      BT.out.alloc _,
      BM.out.alloc _,
      (Gr.refl _).alloc _⟩ ?_
  rintro W7 ⟨BD, BC7, BT7, BM7, G7⟩
  clear BM BT BC
  have BC := Hid.mk BC7
  replace BD := Hid.mk BD
  replace hT := Hid.mk (hT.out.gr (G6.trans G7))
  replace hm : Hid (ImgIn w.heap.size W7 ra ca ga m) := Hid.mk (hm.out.below (gr_below (G6.trans G7) hB.out.size))
  replace hB := Hid.mk (hB.out.trans (gr_below (G6.trans G7) hB.out.size))
  clear G6 G7 BC7
  generalize w6.heap.size = kd at *
  have c0 : W7.cell? ⟨w.heap.size, 0, none⟩ = some (.slice ra m.regs.length rc) := BM7.2.1 0
  have c1 : W7.cell? ⟨w.heap.size, 1, none⟩ = some (.slice ca m.comps.length cc) := BM7.2.1 1
  have c2 : W7.cell? ⟨w.heap.size, 2, none⟩ = some (.slice ga m.gates.length gc) := BM7.2.1 2
  have c3 : W7.cell? ⟨w.heap.size, 3, none⟩ = some (.int .i64 m.depth) := BM7.2.1 3
  have t0 : W7.cell? ⟨kt, 0, none⟩ = some (.slice (some ⟨kr, 0, none⟩) m.regs.length (m.regs.length + 8)) := BT7.2.1 0
  have t1 : W7.cell? ⟨kt, 1, none⟩ = some (.slice (some ⟨kc, 0, none⟩) m.comps.length (m.comps.length + 8)) := BT7.2.1 1
  have t2 : W7.cell? ⟨kt, 2, none⟩ = some (.slice (some ⟨kg, 0, none⟩) m.gates.length (m.gates.length + 8)) := BT7.2.1 2
  have t3 : W7.cell? ⟨kt, 3, none⟩ = some (.int .i64 m.depth) := BT7.2.1 3
  clear BM7 BT7
  go_wp2_with fail
  refine (Still_any m ra ca ga rc cc gc w.heap.size kg kr kc kg lr lc lg W7 hT.out hm.out hB.out.size hfit.out).mono ?_
  rintro x w8 ⟨rfl, G8⟩
  clear c0 c1 c2 c3 t0 t1 t2 t3 hT hm
  replace hB := Hid.mk (hB.out.trans (gr_below G8 hB.out.size))
  replace BC := BC.out.gr G8
  replace BD := BD.out.gr G8
  clear G8
  have c0 : w8.cell? ⟨kb, 0, none⟩ = some (.int .u64 n0) := BC.2.1 0
  have d0 : w8.cell? ⟨kd, 0, none⟩ = some (.int .u64 n0) := BD.2.1 0
  have c1 : w8.cell? ⟨kb, 1, none⟩ = some (.int .u64 n1) := BC.2.1 1
  have d1 : w8.cell? ⟨kd, 1, none⟩ = some (.int .u64 n1) := BD.2.1 1
  have c2 : w8.cell? ⟨kb, 2, none⟩ = some (.int .u64 n2) := BC.2.1 2
  have d2 : w8.cell? ⟨kd, 2, none⟩ = some (.int .u64 n2) := BD.2.1 2
  have c3 : w8.cell? ⟨kb, 3, none⟩ = some (.int .u8 n3) := BC.2.1 3
  have d3 : w8.cell? ⟨kd, 3, none⟩ = some (.int .u8 n3) := BD.2.1 3
  have c4 : w8.cell? ⟨kb, 4, none⟩ = some (.int .i64 n4) := BC.2.1 4
  have d4 : w8.cell? ⟨kd, 4, none⟩ = some (.int .i64 n4) := BD.2.1 4
  clear BC BD
  go_wp2_with fail
  go_ret
  exact ⟨by simp, hB.out⟩
end Q
end Go.Proofs.YtpdekcchkhahcaaDoor
