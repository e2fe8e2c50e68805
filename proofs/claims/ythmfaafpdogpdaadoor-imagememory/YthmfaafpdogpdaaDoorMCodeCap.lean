/-
  Stage 4, image: CodeCap of any program.
-/
import Derived.Test.YthmfaafpdogpdaaDoorMHas
import Derived.Test.YthmfaafpdogpdaaDoorMKind
import Derived.Test.YthmfaafpdogpdaaDoorMRead
namespace Go.Proofs.YthmfaafpdogpdaaDoor
open Go.RowKit

set_option maxRecDepth 10000 in
set_option maxHeartbeats 2000000 in
theorem CodeCap_no (m : PImg) (c e : Int) (ra ca ga : Option Addr) (rn rc cc gn gc : Nat) (w : World) (hc : CompIn w.heap.size w ca m.comps) (hh : hasI m.comps c e = false) :
    Calls Tryd.prog 20 #[.agg #[.slice ra rn rc, .slice ca m.comps.length cc, .slice ga gn gc, .int .i64 m.depth], .int .i64 c, .int .i64 e] w fun x w' => x = .returned (.tuple #[.agg #[.int .u64 0, .int .u64 0, .int .u64 0, .int .u8 0, .int .i64 0], .bool false]) ∧ Gr w w' := by
  have hq := fun W (h : CompIn W.heap.size W ca m.comps) => hasInst_any m c e ra ca ga rn rc cc gn gc W h
  rw [hh] at hq
  have hg : ∀ W, Gr w W → CompIn W.heap.size W ca m.comps := fun W h => (hc.below h.below).mono (gr_size h)
  clear hc hh
  go_enter Tryd.func20, Tryd.ntmps20
  go_wp2_with fail
  have hG0 : Gr w ((w.alloc (.cells #[.slice ra rn rc, .slice ca m.comps.length cc, .slice ga gn gc, .int .i64 m.depth] 41)).alloc (.cells #[.int .u64 0, .int .u64 0, .int .u64 0, .int .u8 0, .int .i64 0] 58)) := ((Gr.refl w).alloc _).alloc _
  have X : Box ((w.alloc (.cells #[.slice ra rn rc, .slice ca m.comps.length cc, .slice ga gn gc, .int .i64 m.depth] 41)).alloc (.cells #[.int .u64 0, .int .u64 0, .int .u64 0, .int .u8 0, .int .i64 0] 58)) (w.heap.size + 1) #[.int .u64 0, .int .u64 0, .int .u64 0, .int .u8 0, .int .i64 0] 58 := Box.next _ _ _ _
  refine (hq _ (hg _ hG0)).mono ?_
  rintro x w1 ⟨rfl, hG⟩
  replace X := X.gr hG
  replace hG := Hid.mk (hG0.trans hG)
  have ⟨z1, p1, f1⟩ := X.at
  clear hq hg hG0
  replace X := Hid.mk X
  go_wp2_with fail
  have b4 := ((((X.out.set 0 (.int .u64 0)).set 1 (.int .u64 0)).set 2 (.int .u64 0)).set 3 (.int .u8 0)).set 4 (.int .i64 0)
  have hG4 := ((((hG.out.setCell (w.heap.size + 1) 0 (.int .u64 0) (by omega)).setCell (w.heap.size + 1) 1 (.int .u64 0) (by omega)).setCell (w.heap.size + 1) 2 (.int .u64 0) (by omega)).setCell (w.heap.size + 1) 3 (.int .u8 0) (by omega)).setCell (w.heap.size + 1) 4 (.int .i64 0) (by omega)
  have ⟨_, q4, _⟩ := b4.at
  clear z1 p1 f1 X hG b4
  generalize ((((w1.setCell ⟨w.heap.size + 1, 0, none⟩ (.int .u64 0)).setCell ⟨w.heap.size + 1, 1, none⟩ (.int .u64 0)).setCell ⟨w.heap.size + 1, 2, none⟩ (.int .u64 0)).setCell ⟨w.heap.size + 1, 3, none⟩ (.int .u8 0)).setCell ⟨w.heap.size + 1, 4, none⟩ (.int .i64 0) = W4 at *
  simp [bodyPost, results, Tryd.results20, go_sem, q4]
  exact hG4
def codeBase (j : Nat) : Int := 1048576 + (j : Int) * 65536
set_option maxRecDepth 10000 in
set_option maxHeartbeats 2000000 in
theorem CodeCap_yes (m : PImg) (j : Nat) (e : Int) (ra ca ga : Option Addr) (rn rc cc gn gc : Nat) (w : World) (hc : CompIn w.heap.size w ca m.comps) (hj : j < m.comps.length) (hl : m.comps.length ≤ maxG) (he : 0 ≤ e ∧ e < m.comps[j].code.length) (hk : m.comps[j].code.length ≤ maxI) :
    Calls Tryd.prog 20 #[.agg #[.slice ra rn rc, .slice ca m.comps.length cc, .slice ga gn gc, .int .i64 m.depth], .int .i64 j, .int .i64 e] w fun x w' => x = .returned (.tuple #[.agg #[.int .u64 (codeBase j), .int .u64 (codeBase j + m.comps[j].code.length * 8), .int .u64 (codeBase j + e * 8), .int .u8 16, .int .i64 0], .bool true]) ∧ Gr w w' := by
  have hh : hasI m.comps j e = true := by
    unfold hasI
    rw [if_pos ⟨by omega, by omega, he.1⟩, Int.toNat_natCast, List.getElem?_eq_getElem hj]
    simpa using he.2
  have hq := fun W (h : CompIn W.heap.size W ca m.comps) => hasInst_any m j e ra ca ga rn rc cc gn gc W h
  rw [hh] at hq
  have hg : ∀ W, Gr w W → CompIn W.heap.size W ca m.comps := fun W h => (hc.below h.below).mono (gr_size h)
  obtain ⟨b, off, ra', rc', ka, kc, rfl, _, hb, _, c1, _, _⟩ := hc j hj
  clear hc hh
  generalize m.comps[j].code.length = k at *
  unfold maxG at hl
  unfold maxI at hk
  have jl : (j : Int) < m.comps.length := by omega
  have e1 : IntKind.u64.wrap (j : Int) = j := by rw [IntKind.wrap_u64]; omega
  have e2 : IntKind.u64.wrap ((j : Int) * 65536) = (j : Int) * 65536 := by rw [IntKind.wrap_u64]; omega
  have e3 : IntKind.u64.wrap (1048576 + (j : Int) * 65536) = codeBase j := by unfold codeBase; rw [IntKind.wrap_u64]; omega
  have e4 : IntKind.u64.wrap (k : Int) = k := by rw [IntKind.wrap_u64]; omega
  have e5 : IntKind.u64.wrap ((k : Int) * 8) = (k : Int) * 8 := by rw [IntKind.wrap_u64]; omega
  have e6 : IntKind.u64.wrap (codeBase j + (k : Int) * 8) = codeBase j + (k : Int) * 8 := by unfold codeBase; rw [IntKind.wrap_u64]; omega
  have e7 : IntKind.u64.wrap e = e := by rw [IntKind.wrap_u64]; omega
  have e8 : IntKind.u64.wrap (e * 8) = e * 8 := by rw [IntKind.wrap_u64]; omega
  have e9 : IntKind.u64.wrap (codeBase j + e * 8) = codeBase j + e * 8 := by unfold codeBase; rw [IntKind.wrap_u64]; omega
  generalize codeBase j = cb at *
  go_enter Tryd.func20, Tryd.ntmps20
  go_wp2_with fail
  have hG0 : Gr w ((w.alloc (.cells #[.slice ra rn rc, .slice (some ⟨b, off, none⟩) m.comps.length cc, .slice ga gn gc, .int .i64 m.depth] 41)).alloc (.cells #[.int .u64 0, .int .u64 0, .int .u64 0, .int .u8 0, .int .i64 0] 58)) := ((Gr.refl w).alloc _).alloc _
  have M : Box ((w.alloc (.cells #[.slice ra rn rc, .slice (some ⟨b, off, none⟩) m.comps.length cc, .slice ga gn gc, .int .i64 m.depth] 41)).alloc (.cells #[.int .u64 0, .int .u64 0, .int .u64 0, .int .u8 0, .int .i64 0] 58)) w.heap.size #[.slice ra rn rc, .slice (some ⟨b, off, none⟩) m.comps.length cc, .slice ga gn gc, .int .i64 m.depth] 41 := (Box.new w _ _).alloc _
  have X : Box ((w.alloc (.cells #[.slice ra rn rc, .slice (some ⟨b, off, none⟩) m.comps.length cc, .slice ga gn gc, .int .i64 m.depth] 41)).alloc (.cells #[.int .u64 0, .int .u64 0, .int .u64 0, .int .u8 0, .int .i64 0] 58)) (w.heap.size + 1) #[.int .u64 0, .int .u64 0, .int .u64 0, .int .u8 0, .int .i64 0] 58 := Box.next _ _ _ _
  refine (hq _ (hg _ hG0)).mono ?_
  rintro x w1 ⟨rfl, hG⟩
  replace M := M.gr hG
  replace X := X.gr hG
  replace hG := hG0.trans hG
  replace c1 := (hG.cell hb _).trans c1
  have ⟨z0, p0, f0⟩ := M.at
  have ⟨z1, p1, f1⟩ := X.at
  clear hq hg hG0
  replace M := Hid.mk M
  replace X := Hid.mk X
  replace hG := Hid.mk hG
  go_wp2_with fail
  have b4 := ((((X.out.set 0 (.int .u64 cb)).set 1 (.int .u64 (cb + k * 8))).set 2 (.int .u64 (cb + e * 8))).set 3 (.int .u8 16)).set 4 (.int .i64 0)
  have hG4 := ((((hG.out.setCell (w.heap.size + 1) 0 (.int .u64 cb) (by omega)).setCell (w.heap.size + 1) 1 (.int .u64 (cb + k * 8)) (by omega)).setCell (w.heap.size + 1) 2 (.int .u64 (cb + e * 8)) (by omega)).setCell (w.heap.size + 1) 3 (.int .u8 16) (by omega)).setCell (w.heap.size + 1) 4 (.int .i64 0) (by omega)
  have ⟨_, q4, _⟩ := b4.at
  clear z0 p0 f0 z1 p1 f1 X M hG b4 c1
  generalize ((((w1.setCell ⟨w.heap.size + 1, 0, none⟩ (.int .u64 cb)).setCell ⟨w.heap.size + 1, 1, none⟩ (.int .u64 (cb + k * 8))).setCell ⟨w.heap.size + 1, 2, none⟩ (.int .u64 (cb + e * 8))).setCell ⟨w.heap.size + 1, 3, none⟩ (.int .u8 16)).setCell ⟨w.heap.size + 1, 4, none⟩ (.int .i64 0) = W4 at *
  simp [bodyPost, results, Tryd.results20, go_sem, q4]
  exact hG4
end Go.Proofs.YthmfaafpdogpdaaDoor
