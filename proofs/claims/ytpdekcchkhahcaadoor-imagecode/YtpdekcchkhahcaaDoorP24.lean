import Derived.Test.YtpdekcchkhahcaaDoorP23
import Derived.Test.YtpdekcchkhahcaaDoorP18
import Derived.Test.YtpdekcchkhahcaaDoorP15
/-
  Stage 4, image: the examples at the head of each statement.
-/
namespace Go.Proofs.YtpdekcchkhahcaaDoor
open Go.RowKit

theorem least_has : hasI leastP.comps 0 0 = true := by decide
set_option maxRecDepth 10000 in
set_option maxHeartbeats 1000000 in
theorem CodeCap_least (g g2 c c2 : Nat) (w : World) (hI : ImgIn w.heap.size w none (some ⟨g, 0, none⟩) (some ⟨g2, 0, none⟩) leastP) :
    Calls Tryd.prog 6 #[.agg #[.slice none 0 0, .slice (some ⟨g, 0, none⟩) 1 c, .slice (some ⟨g2, 0, none⟩) 1 c2, .int .i64 1], .int .i64 0, .int .i64 0] w fun x w' => x = .returned (.tuple #[.agg #[.int .u64 1048576, .int .u64 1048584, .int .u64 1048576, .int .u8 16, .int .i64 0], .bool true]) ∧ Gr w w' := by
  have hh := fun W (h : CompIn W.heap.size W (some ⟨g, 0, none⟩) leastP.comps) => hasInst_any leastP 0 0 none (some ⟨g, 0, none⟩) (some ⟨g2, 0, none⟩) 0 0 c 1 c2 W h
  rw [least_has] at hh
  have hg : ∀ W, Gr w W → CompIn W.heap.size W (some ⟨g, 0, none⟩) leastP.comps := fun W h => (hI.comps.below h.below).mono (gr_size h)
  obtain ⟨b, off, ra, rc, ka, kc, e, _, hb, _, c1, _, _⟩ := hI.comps 0 (by decide)
  cases e
  clear hI
  go_enter Tryd.func6, Tryd.ntmps6
  go_wp2_with fail
  have hG0 : Gr w ((w.alloc (.cells #[.slice none 0 0, .slice (some ⟨g, 0, none⟩) 1 c, .slice (some ⟨g2, 0, none⟩) 1 c2, .int .i64 1] 26)).alloc (.cells #[.int .u64 0, .int .u64 0, .int .u64 0, .int .u8 0, .int .i64 0] 32)) := ((Gr.refl w).alloc _).alloc _
  have M : Box ((w.alloc (.cells #[.slice none 0 0, .slice (some ⟨g, 0, none⟩) 1 c, .slice (some ⟨g2, 0, none⟩) 1 c2, .int .i64 1] 26)).alloc (.cells #[.int .u64 0, .int .u64 0, .int .u64 0, .int .u8 0, .int .i64 0] 32)) w.heap.size #[.slice none 0 0, .slice (some ⟨g, 0, none⟩) 1 c, .slice (some ⟨g2, 0, none⟩) 1 c2, .int .i64 1] 26 := (Box.new w _ _).alloc _
  have X : Box ((w.alloc (.cells #[.slice none 0 0, .slice (some ⟨g, 0, none⟩) 1 c, .slice (some ⟨g2, 0, none⟩) 1 c2, .int .i64 1] 26)).alloc (.cells #[.int .u64 0, .int .u64 0, .int .u64 0, .int .u8 0, .int .i64 0] 32)) (w.heap.size + 1) #[.int .u64 0, .int .u64 0, .int .u64 0, .int .u8 0, .int .i64 0] 32 := Box.next _ _ _ _
  refine (hh _ (hg _ hG0)).mono ?_
  rintro x w1 ⟨rfl, hG⟩
  replace M := M.gr hG
  replace X := X.gr hG
  replace hG := hG0.trans hG
  replace c1 := (hG.cell hb _).trans c1
  have ⟨z0, p0, f0⟩ := M.at
  have ⟨z1, p1, f1⟩ := X.at
  have hln : (0 : Int) < 1 := by omega
  clear hh hg hG0
  replace M := Hid.mk M
  replace X := Hid.mk X
  replace hG := Hid.mk hG
  have c1' : w1.cell? ⟨g, 1, none⟩ = some (.slice ka 1 kc) := c1
  clear c1
  go_wp2_with fail
  have b4 := (((((X.out.set 0 (.int .u64 1048576)).set 1 (.int .u64 1048584)).set 2 (.int .u64 1048576)).set 3 (.int .u8 16)).set 4 (.int .i64 0))
  have hG4 := (((((hG.out.setCell (w.heap.size + 1) 0 (.int .u64 1048576) (by omega)).setCell (w.heap.size + 1) 1 (.int .u64 1048584) (by omega)).setCell (w.heap.size + 1) 2 (.int .u64 1048576) (by omega)).setCell (w.heap.size + 1) 3 (.int .u8 16) (by omega)).setCell (w.heap.size + 1) 4 (.int .i64 0) (by omega))
  have ⟨_, q4, _⟩ := b4.at
  clear z0 p0 f0 z1 p1 f1 X M hG b4 c1' hb
  generalize (((((w1.setCell ⟨w.heap.size + 1, 0, none⟩ (.int .u64 1048576)).setCell ⟨w.heap.size + 1, 1, none⟩ (.int .u64 1048584)).setCell ⟨w.heap.size + 1, 2, none⟩ (.int .u64 1048576)).setCell ⟨w.heap.size + 1, 3, none⟩ (.int .u8 16)).setCell ⟨w.heap.size + 1, 4, none⟩ (.int .i64 0)) = W4 at *
  simp [bodyPost, results, Tryd.results6, go_sem, q4]
  exact hG4
set_option maxHeartbeats 400000 in
theorem num_any (e : Int) (w : World) : Calls Tryd.prog 12 #[.int .i64 e] w fun x w' => x = .returned (.int .i64 e) ∧ w = w' := by
  go_enter Tryd.func12, Tryd.ntmps12
  go_wp2_with fail
  go_ret
  exact ⟨rfl, rfl⟩
set_option maxRecDepth 10000 in
set_option maxHeartbeats 2000000 in
theorem examples_any (w : World) (ht : TabIn w) :
    Calls Tryd.prog 4 #[] w fun x w' => x = .returned (.bool true) ∧ Below w.heap.size w w' := by
  have hE := fun g g2 W h0 (h1 : ImgIn W.heap.size W none (some ⟨g, 0, none⟩) (some ⟨g2, 0, none⟩) leastP) => imgEncode_any leastP none (some ⟨g, 0, none⟩) (some ⟨g2, 0, none⟩) 0 1 1 W h0 h1 least_rng
  rw [least_enc] at hE
  have hD := Decode_least
  have ss : (str leastS).size = 26 := rfl
  have h2 := ht.size
  have hT : ∀ W, Below w.heap.size w W → TabIn W := fun W h => ht.below h h2
  go_enter Tryd.func4, Tryd.ntmps4
  go_wp2_with fail
  refine (least_any _).mono ?_
  rintro x w1 ⟨g, g2, rfl, hI, hG⟩
  go_wp2_with fail
  refine (hE g g2 _ (hT _ hG.below) hI).mono ?_
  rintro x w2 ⟨rfl, hB2⟩
  have hB : Below w.heap.size w w2 := hG.below.trans (hB2.mono (gr_size hG))
  clear hI hG hB2 hE
  go_wp2_with fail
  refine (hD _ (hT _ hB)).mono ?_
  rintro x w3 ⟨ca, cc, ga, gc, rfl, hB3⟩
  replace hB := hB.trans (hB3.mono hB.size)
  clear hB3 hD
  go_wp2_with fail
  have M : Box (w3.alloc (.cells #[.slice none 0 0, .slice ca 1 cc, .slice ga 1 gc, .int .i64 1] 26)) w3.heap.size #[.slice none 0 0, .slice ca 1 cc, .slice ga 1 gc, .int .i64 1] 26 := Box.new _ _ _
  refine (least_any _).mono ?_
  rintro x w4 ⟨k, k2, rfl, hI, hG⟩
  replace M := M.gr hG
  replace hB := hB.trans (hG.of_alloc.below.mono hB.size)
  clear hG
  go_wp2_with fail
  refine (CodeCap_least k k2 1 1 _ hI).mono ?_
  rintro x w5 ⟨rfl, hG⟩
  replace M := M.gr hG
  replace hB := hB.trans (hG.below.mono hB.size)
  clear hG hI
  have ⟨z0, p0, f0⟩ := (M.alloc (.cells #[.int .u64 1048576, .int .u64 1048584, .int .u64 1048576, .int .u8 16, .int .i64 0] 32)).at
  generalize leastS = S at *
  replace hB := Hid.mk (hB.alloc hB.size (.cells #[.int .u64 1048576, .int .u64 1048584, .int .u64 1048576, .int .u8 16, .int .i64 0] 32))
  replace hT := Hid.mk hT
  clear M
  go_wp2_with (go_at_call 12; refine (num_any _ _).mono ?_; rintro x w' ⟨rfl, rfl⟩)
  go_ret
  exact ⟨rfl, hB.out⟩
end Go.Proofs.YtpdekcchkhahcaaDoor


/-
  Stage 4, image: CodeCap of any program.
-/
namespace Go.Proofs.YtpdekcchkhahcaaDoor
open Go.RowKit

set_option maxRecDepth 10000 in
set_option maxHeartbeats 2000000 in
theorem CodeCap_no (m : PImg) (c e : Int) (ra ca ga : Option Addr) (rn rc cc gn gc : Nat) (w : World) (hc : CompIn w.heap.size w ca m.comps) (hh : hasI m.comps c e = false) :
    Calls Tryd.prog 6 #[.agg #[.slice ra rn rc, .slice ca m.comps.length cc, .slice ga gn gc, .int .i64 m.depth], .int .i64 c, .int .i64 e] w fun x w' => x = .returned (.tuple #[.agg #[.int .u64 0, .int .u64 0, .int .u64 0, .int .u8 0, .int .i64 0], .bool false]) ∧ Gr w w' := by
  have hq := fun W (h : CompIn W.heap.size W ca m.comps) => hasInst_any m c e ra ca ga rn rc cc gn gc W h
  rw [hh] at hq
  have hg : ∀ W, Gr w W → CompIn W.heap.size W ca m.comps := fun W h => (hc.below h.below).mono (gr_size h)
  clear hc hh
  go_enter Tryd.func6, Tryd.ntmps6
  go_wp2_with fail
  have hG0 : Gr w ((w.alloc (.cells #[.slice ra rn rc, .slice ca m.comps.length cc, .slice ga gn gc, .int .i64 m.depth] 26)).alloc (.cells #[.int .u64 0, .int .u64 0, .int .u64 0, .int .u8 0, .int .i64 0] 32)) := ((Gr.refl w).alloc _).alloc _
  have X : Box ((w.alloc (.cells #[.slice ra rn rc, .slice ca m.comps.length cc, .slice ga gn gc, .int .i64 m.depth] 26)).alloc (.cells #[.int .u64 0, .int .u64 0, .int .u64 0, .int .u8 0, .int .i64 0] 32)) (w.heap.size + 1) #[.int .u64 0, .int .u64 0, .int .u64 0, .int .u8 0, .int .i64 0] 32 := Box.next _ _ _ _
  refine (hq _ (hg _ hG0)).mono ?_
  rintro x w1 ⟨rfl, hG⟩
  replace X := X.gr hG
  replace hG := Hid.mk (hG0.trans hG)
  have ⟨z1, p1, f1⟩ := X.at
  clear hq hg hG0
  replace X := Hid.mk X
  go_wp2_with fail
  have b4 := ((((X.out.set 0 (.int .u64 0)).set 1 (.int .u64 0)).set 2 (.int .u64 0)).set 3 (.int .u8 0)).set 4 (.int .i64 0)
  have hG4 := ((((hG.out.setCell (w.heap.size + 1) 0 (.int .u64 0) (by omega)).setCell (w.heap.size + 1) 1 (.int .u64 0) (by omega)).setCell (w.heap.size + 1) 2 (.int .u64 0) (by omega)).setCell (w.heap.size + 1) 3 (.int .u8 0) (by omega)).setCell (w.heap.size + 1) 4 (.int .i64 0) (by omega)
  have ⟨_, q4, _⟩ := b4.at
  clear z1 p1 f1 X hG b4
  generalize ((((w1.setCell ⟨w.heap.size + 1, 0, none⟩ (.int .u64 0)).setCell ⟨w.heap.size + 1, 1, none⟩ (.int .u64 0)).setCell ⟨w.heap.size + 1, 2, none⟩ (.int .u64 0)).setCell ⟨w.heap.size + 1, 3, none⟩ (.int .u8 0)).setCell ⟨w.heap.size + 1, 4, none⟩ (.int .i64 0) = W4 at *
  simp [bodyPost, results, Tryd.results6, go_sem, q4]
  exact hG4
def codeBase (j : Nat) : Int := 1048576 + (j : Int) * 65536
set_option maxRecDepth 10000 in
set_option maxHeartbeats 2000000 in
theorem CodeCap_yes (m : PImg) (j : Nat) (e : Int) (ra ca ga : Option Addr) (rn rc cc gn gc : Nat) (w : World) (hc : CompIn w.heap.size w ca m.comps) (hj : j < m.comps.length) (hl : m.comps.length ≤ maxG) (he : 0 ≤ e ∧ e < m.comps[j].code.length) (hk : m.comps[j].code.length ≤ maxI) :
    Calls Tryd.prog 6 #[.agg #[.slice ra rn rc, .slice ca m.comps.length cc, .slice ga gn gc, .int .i64 m.depth], .int .i64 j, .int .i64 e] w fun x w' => x = .returned (.tuple #[.agg #[.int .u64 (codeBase j), .int .u64 (codeBase j + m.comps[j].code.length * 8), .int .u64 (codeBase j + e * 8), .int .u8 16, .int .i64 0], .bool true]) ∧ Gr w w' := by
  have hh : hasI m.comps j e = true := by
    unfold hasI
    rw [if_pos ⟨by omega, by omega, he.1⟩, Int.toNat_natCast, List.getElem?_eq_getElem hj]
    simpa using he.2
  have hq := fun W (h : CompIn W.heap.size W ca m.comps) => hasInst_any m j e ra ca ga rn rc cc gn gc W h
  rw [hh] at hq
  have hg : ∀ W, Gr w W → CompIn W.heap.size W ca m.comps := fun W h => (hc.below h.below).mono (gr_size h)
  obtain ⟨b, off, ra', rc', ka, kc, rfl, _, hb, _, c1, _, _⟩ := hc j hj
  clear hc hh
  generalize m.comps[j].code.length = k at *
  unfold maxG at hl
  unfold maxI at hk
  have jl : (j : Int) < m.comps.length := by omega
  have e1 : IntKind.u64.wrap (j : Int) = j := by rw [IntKind.wrap_u64]; omega
  have e2 : IntKind.u64.wrap ((j : Int) * 65536) = (j : Int) * 65536 := by rw [IntKind.wrap_u64]; omega
  have e3 : IntKind.u64.wrap (1048576 + (j : Int) * 65536) = codeBase j := by unfold codeBase; rw [IntKind.wrap_u64]; omega
  have e4 : IntKind.u64.wrap (k : Int) = k := by rw [IntKind.wrap_u64]; omega
  have e5 : IntKind.u64.wrap ((k : Int) * 8) = (k : Int) * 8 := by rw [IntKind.wrap_u64]; omega
  have e6 : IntKind.u64.wrap (codeBase j + (k : Int) * 8) = codeBase j + (k : Int) * 8 := by unfold codeBase; rw [IntKind.wrap_u64]; omega
  have e7 : IntKind.u64.wrap e = e := by rw [IntKind.wrap_u64]; omega
  have e8 : IntKind.u64.wrap (e * 8) = e * 8 := by rw [IntKind.wrap_u64]; omega
  have e9 : IntKind.u64.wrap (codeBase j + e * 8) = codeBase j + e * 8 := by unfold codeBase; rw [IntKind.wrap_u64]; omega
  generalize codeBase j = cb at *
  go_enter Tryd.func6, Tryd.ntmps6
  go_wp2_with fail
  have hG0 : Gr w ((w.alloc (.cells #[.slice ra rn rc, .slice (some ⟨b, off, none⟩) m.comps.length cc, .slice ga gn gc, .int .i64 m.depth] 26)).alloc (.cells #[.int .u64 0, .int .u64 0, .int .u64 0, .int .u8 0, .int .i64 0] 32)) := ((Gr.refl w).alloc _).alloc _
  have M : Box ((w.alloc (.cells #[.slice ra rn rc, .slice (some ⟨b, off, none⟩) m.comps.length cc, .slice ga gn gc, .int .i64 m.depth] 26)).alloc (.cells #[.int .u64 0, .int .u64 0, .int .u64 0, .int .u8 0, .int .i64 0] 32)) w.heap.size #[.slice ra rn rc, .slice (some ⟨b, off, none⟩) m.comps.length cc, .slice ga gn gc, .int .i64 m.depth] 26 := (Box.new w _ _).alloc _
  have X : Box ((w.alloc (.cells #[.slice ra rn rc, .slice (some ⟨b, off, none⟩) m.comps.length cc, .slice ga gn gc, .int .i64 m.depth] 26)).alloc (.cells #[.int .u64 0, .int .u64 0, .int .u64 0, .int .u8 0, .int .i64 0] 32)) (w.heap.size + 1) #[.int .u64 0, .int .u64 0, .int .u64 0, .int .u8 0, .int .i64 0] 32 := Box.next _ _ _ _
  refine (hq _ (hg _ hG0)).mono ?_
  rintro x w1 ⟨rfl, hG⟩
  replace M := M.gr hG
  replace X := X.gr hG
  replace hG := hG0.trans hG
  replace c1 := (hG.cell hb _).trans c1
  have ⟨z0, p0, f0⟩ := M.at
  have ⟨z1, p1, f1⟩ := X.at
  clear hq hg hG0
  replace M := Hid.mk M
  replace X := Hid.mk X
  replace hG := Hid.mk hG
  go_wp2_with fail
  have b4 := ((((X.out.set 0 (.int .u64 cb)).set 1 (.int .u64 (cb + k * 8))).set 2 (.int .u64 (cb + e * 8))).set 3 (.int .u8 16)).set 4 (.int .i64 0)
  have hG4 := ((((hG.out.setCell (w.heap.size + 1) 0 (.int .u64 cb) (by omega)).setCell (w.heap.size + 1) 1 (.int .u64 (cb + k * 8)) (by omega)).setCell (w.heap.size + 1) 2 (.int .u64 (cb + e * 8)) (by omega)).setCell (w.heap.size + 1) 3 (.int .u8 16) (by omega)).setCell (w.heap.size + 1) 4 (.int .i64 0) (by omega)
  have ⟨_, q4, _⟩ := b4.at
  clear z0 p0 f0 z1 p1 f1 X M hG b4 c1
  generalize ((((w1.setCell ⟨w.heap.size + 1, 0, none⟩ (.int .u64 cb)).setCell ⟨w.heap.size + 1, 1, none⟩ (.int .u64 (cb + k * 8))).setCell ⟨w.heap.size + 1, 2, none⟩ (.int .u64 (cb + e * 8))).setCell ⟨w.heap.size + 1, 3, none⟩ (.int .u8 16)).setCell ⟨w.heap.size + 1, 4, none⟩ (.int .i64 0) = W4 at *
  simp [bodyPost, results, Tryd.results6, go_sem, q4]
  exact hG4
end Go.Proofs.YtpdekcchkhahcaaDoor
