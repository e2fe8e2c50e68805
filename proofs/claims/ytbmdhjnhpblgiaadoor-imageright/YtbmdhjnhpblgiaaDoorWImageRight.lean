import Derived.Test.YtbmdhjnhpblgiaaDoorP24
import Derived.Test.YtbmdhjnhpblgiaaDoorP20
import Derived.Test.YtbmdhjnhpblgiaaDoorP25
import Derived.Test.YtbmdhjnhpblgiaaDoorP11
import Derived.Test.YtbmdhjnhpblgiaaDoorP31
/-
  Stage 4, image: the walk of the statement on Right.
-/
namespace Go.Proofs.YtbmdhjnhpblgiaaDoor
namespace Q
open Go.RowKit

theorem At.underR {w w1 : World} {B k : Nat} {cs : Array Value} (h : At w k cs) (hb : Below B w w1) (hk : k < B) : At w1 k cs :=
  ⟨Nat.lt_of_lt_of_le h.1 hb.size, fun i => by rw [World.cell?_of_block (a := ⟨k, i, none⟩) (hb.block k hk)]; exact h.2.1 i, fun i => by rw [World.frozen?_of_block (a := ⟨k, i, none⟩) (hb.block k hk)]; exact h.2.2 i⟩
set_option maxRecDepth 100000 in
set_option maxHeartbeats 8000000 in
theorem walk_ImageRight (m : PImg) (ra ca ga : Option Addr) (rc cc gc : Nat) (w : World) (ht : TabIn w) (hm : ImgIn w.heap.size w ra ca ga m) (hF : m.Fit) :
    Calls Tryd.prog 3 #[.agg #[.slice ra m.regs.length rc, .slice ca m.comps.length cc, .slice ga m.gates.length gc, .int .i64 m.depth]] w fun x w' => x = .returned (.bool true) ∧ Below w.heap.size w w' := by
  have hfit := Hid.mk hF.tw
  have hrng := Hid.mk hF.rng
  have hT : Hid (∀ W, Below w.heap.size w W → TabIn W) := Hid.mk (fun W h => ht.below h ht.size)
  clear hF
  replace hm := Hid.mk hm
  replace ht := Hid.mk ht
  go_enter Tryd.func3, Tryd.ntmps3
  go_upto_region 1 with fail
  refine wp_world (fun W => At W w.heap.size #[.slice ra m.regs.length rc, .slice ca m.comps.length cc, .slice ga m.gates.length gc, .int .i64 m.depth] ∧ Gr w W) ⟨At.new w _ _, (Gr.refl w).alloc _⟩ ?_
  rintro W0 ⟨BM, G0⟩
  replace BM := Hid.mk BM
  replace G0 := Hid.mk G0
  go_wp2_with fail
  refine (examples_any W0 (ht.out.gr G0.out)).mono ?_
  rintro x w1 ⟨rfl, hB1⟩
  have hs : w.heap.size < W0.heap.size := BM.out.1
  replace BM := Hid.mk (At.underR BM.out hB1 hs)
  have hB : Below w.heap.size w w1 := G0.out.below.trans (hB1.mono (Nat.le_of_lt hs))
  clear hB1 hs G0 ht
  replace hm : Hid (ImgIn w.heap.size w1 ra ca ga m) := Hid.mk (hm.out.below hB)
  replace hB := Hid.mk hB
  have c0 : w1.cell? ⟨w.heap.size, 0, none⟩ = some (.slice ra m.regs.length rc) := BM.out.2.1 0
  have c1 : w1.cell? ⟨w.heap.size, 1, none⟩ = some (.slice ca m.comps.length cc) := BM.out.2.1 1
  have c2 : w1.cell? ⟨w.heap.size, 2, none⟩ = some (.slice ga m.gates.length gc) := BM.out.2.1 2
  have c3 : w1.cell? ⟨w.heap.size, 3, none⟩ = some (.int .i64 m.depth) := BM.out.2.1 3
  go_wp2_with fail
  refine (lent_any m ra ca ga rc cc gc w1 (hm.out.mono hB.out.size) hfit.out).mono ?_
  rintro x w2 ⟨kk, kr, kc, kg, lr, lc, lg, rfl, G2, hI⟩
  clear c0 c1 c2 c3
  replace BM := Hid.mk (BM.out.gr G2)
  go_upto_region 3 with fail
  refine wp_world (fun W => At W w2.heap.size #[.slice (some ⟨kr, 0, none⟩) m.regs.length (m.regs.length + 8), .slice (some ⟨kc, 0, none⟩) m.comps.length (m.comps.length + 8), .slice (some ⟨kg, 0, none⟩) m.gates.length (m.gates.length + 8), .int .i64 m.depth] ∧ At W w.heap.size #[.slice ra m.regs.length rc, .slice ca m.comps.length cc, .slice ga m.gates.length gc, .int .i64 m.depth] ∧ Gr w2 W) ⟨At.new w2 _ _, BM.out.alloc _, (Gr.refl _).alloc _⟩ ?_
  rintro W3 ⟨BT, BM3, G3⟩
  clear BM
  have BM := Hid.mk BM3
  clear BM3
  replace BT := Hid.mk BT
  replace hI := Hid.mk (hI.gr G3)
  replace hm : Hid (ImgIn w.heap.size W3 ra ca ga m) := Hid.mk (hm.out.below (gr_belowR (G2.trans G3) hB.out.size))
  replace hB := Hid.mk (hB.out.trans (gr_belowR (G2.trans G3) hB.out.size))
  clear G2 G3
  generalize w2.heap.size = kt at *
  have t0 : W3.cell? ⟨kt, 0, none⟩ = some (.slice (some ⟨kr, 0, none⟩) m.regs.length (m.regs.length + 8)) := BT.out.2.1 0
  have t1 : W3.cell? ⟨kt, 1, none⟩ = some (.slice (some ⟨kc, 0, none⟩) m.comps.length (m.comps.length + 8)) := BT.out.2.1 1
  have t2 : W3.cell? ⟨kt, 2, none⟩ = some (.slice (some ⟨kg, 0, none⟩) m.gates.length (m.gates.length + 8)) := BT.out.2.1 2
  have t3 : W3.cell? ⟨kt, 3, none⟩ = some (.int .i64 m.depth) := BT.out.2.1 3
  go_wp2_with fail
  refine (imgRight_any m (some ⟨kr, 0, none⟩) (some ⟨kc, 0, none⟩) (some ⟨kg, 0, none⟩) _ _ _ W3 (hT.out _ hB.out) hI.out.img hrng.out).mono ?_
  rintro x w4 ⟨rfl, G4⟩
  clear t0 t1 t2 t3
  replace BM := Hid.mk (BM.out.gr G4)
  replace BT := Hid.mk (BT.out.gr G4)
  replace hI := Hid.mk (hI.out.gr G4)
  replace hm : Hid (ImgIn w.heap.size w4 ra ca ga m) := Hid.mk (hm.out.below (gr_belowR G4 hB.out.size))
  replace hB : Hid (Below w.heap.size w w4) := Hid.mk (hB.out.trans (gr_belowR G4 hB.out.size))
  clear G4
  go_upto_region 4 with fail
  have c0 : w4.cell? ⟨w.heap.size, 0, none⟩ = some (.slice ra m.regs.length rc) := BM.out.2.1 0
  have c1 : w4.cell? ⟨w.heap.size, 1, none⟩ = some (.slice ca m.comps.length cc) := BM.out.2.1 1
  have c2 : w4.cell? ⟨w.heap.size, 2, none⟩ = some (.slice ga m.gates.length gc) := BM.out.2.1 2
  have c3 : w4.cell? ⟨w.heap.size, 3, none⟩ = some (.int .i64 m.depth) := BM.out.2.1 3
  have t0 : w4.cell? ⟨kt, 0, none⟩ = some (.slice (some ⟨kr, 0, none⟩) m.regs.length (m.regs.length + 8)) := BT.out.2.1 0
  have t1 : w4.cell? ⟨kt, 1, none⟩ = some (.slice (some ⟨kc, 0, none⟩) m.comps.length (m.comps.length + 8)) := BT.out.2.1 1
  have t2 : w4.cell? ⟨kt, 2, none⟩ = some (.slice (some ⟨kg, 0, none⟩) m.gates.length (m.gates.length + 8)) := BT.out.2.1 2
  have t3 : w4.cell? ⟨kt, 3, none⟩ = some (.int .i64 m.depth) := BT.out.2.1 3
  go_wp2_with fail
  refine (same_any m m (some ⟨kr, 0, none⟩) (some ⟨kc, 0, none⟩) (some ⟨kg, 0, none⟩) ra ca ga _ _ _ rc cc gc w4 hI.out.img (hm.out.mono hB.out.size) hrng.out).mono ?_
  rintro x w5 ⟨rfl, G5⟩
  clear c0 c1 c2 c3 t0 t1 t2 t3
  rw [(PImg.eqB_iff m m).2 rfl]
  replace BM := Hid.mk (BM.out.gr G5)
  replace BT := Hid.mk (BT.out.gr G5)
  replace hI := Hid.mk (hI.out.gr G5)
  replace hm : Hid (ImgIn w.heap.size w5 ra ca ga m) := Hid.mk (hm.out.below (gr_belowR G5 hB.out.size))
  replace hB : Hid (Below w.heap.size w w5) := Hid.mk (hB.out.trans (gr_belowR G5 hB.out.size))
  clear G5
  go_upto_region 5 with fail
  have t0 : w5.cell? ⟨kt, 0, none⟩ = some (.slice (some ⟨kr, 0, none⟩) m.regs.length (m.regs.length + 8)) := BT.out.2.1 0
  have t1 : w5.cell? ⟨kt, 1, none⟩ = some (.slice (some ⟨kc, 0, none⟩) m.comps.length (m.comps.length + 8)) := BT.out.2.1 1
  have t2 : w5.cell? ⟨kt, 2, none⟩ = some (.slice (some ⟨kg, 0, none⟩) m.gates.length (m.gates.length + 8)) := BT.out.2.1 2
  have t3 : w5.cell? ⟨kt, 3, none⟩ = some (.int .i64 m.depth) := BT.out.2.1 3
  go_wp2_with fail
  refine (spared_any m kk kr kc kg lr lc lg w5 hI.out hfit.out).mono ?_
  rintro x wr ⟨rfl, G6⟩
  clear t0 t1 t2 t3
  replace BM := Hid.mk (BM.out.gr G6)
  replace BT := Hid.mk (BT.out.gr G6)
  replace hI := Hid.mk (hI.out.gr G6)
  replace hm : Hid (ImgIn w.heap.size wr ra ca ga m) := Hid.mk (hm.out.below (gr_belowR G6 hB.out.size))
  replace hB : Hid (Below w.heap.size w wr) := Hid.mk (hB.out.trans (gr_belowR G6 hB.out.size))
  clear G6
  have KS : Hid (∀ W, Gr wr W → W.rangeAt w.heap.size 0 [Value.slice ra m.regs.length rc, .slice ca m.comps.length cc, .slice ga m.gates.length gc, .int .i64 m.depth]) := Hid.mk (fun W q => (BM.out.gr q).range)
  have hcl := Hid.mk (fun (W : World) (q : Gr wr W) => show Calls Tryd.prog 10 #[.agg (List.toArray [Value.slice ra m.regs.length rc, .slice ca m.comps.length cc, .slice ga m.gates.length gc, .int .i64 m.depth])] W _ from refRight_any m ra ca ga rc cc gc W ((hm.out.below (gr_belowR q hB.out.size)).mono (Nat.le_trans hB.out.size q.below.size)) hrng.out)
  have hnum := Hid.mk (fun (W : World) => num_any m.right W)
  have hal := Hid.mk (fun (W : World) (q : Gr wr W) => hB.out.trans (gr_belowR q hB.out.size))
  clear BM BT hI hm hB hT hfit hrng
  generalize m.right = E at *
  go_upto_region 6 with fail
  have d1 : Gr wr wr.drew := (Gr.refl _).drew
  refine wp_region_held_drew (S := (fun W => W.rangeAt w.heap.size 0 [Value.slice ra m.regs.length rc, .slice ca m.comps.length cc, .slice ga m.gates.length gc, .int .i64 m.depth])) (by kernel_rfl) (KS.out _ d1) (fun hHeld => ?_)
  refine wpAnyH_take (i := 0) (oi := { dst := some 18, op := Op.move (Operand.tmp 3), type := 4, pos := "law.go:184", after := #[], guard := none }) (v := ?_) rfl (by kernel_rfl) (by kernel_rfl) (by kernel_rfl) (fun _ _ _ h => h) (Or.inl ⟨by rfl, ?_⟩) (by assumption) ?_
  rotate_left
  · intro w hSw; (try dsimp only at hSw); go_simp; first | done | with_reducible rfl
  try simp only [Act.put, List.setIfInBounds_toArray, List.set_cons_zero, List.set_cons_succ]
  refine wpAnyH_take (i := 1) (oi := { dst := some 19, op := Op.move (Operand.tmp 18), type := 4, pos := "law.go:184", after := #[{ on := 0, ground := Ground.data }], guard := none }) (v := ?_) rfl (by kernel_rfl) (by kernel_rfl) (by kernel_rfl) (fun _ _ _ h => h) (Or.inl ⟨by rfl, ?_⟩) (by assumption) ?_
  rotate_left
  · intro w hSw; (try dsimp only at hSw); go_simp; first | done | with_reducible rfl
  try simp only [Act.put, List.setIfInBounds_toArray, List.set_cons_zero, List.set_cons_succ]
  refine wpAnyH_take (i := 2) (oi := { dst := some 20, op := Op.move (Operand.tmp 6), type := 4, pos := "law.go:184", after := #[{ on := 1, ground := Ground.guard }], guard := some (1, true) }) (v := ?_) rfl (by kernel_rfl) (by kernel_rfl) (by kernel_rfl) (fun _ _ _ h => h) (Or.inl ⟨by rfl, ?_⟩) (by assumption) ?_
  rotate_left
  · intro w hSw; (try dsimp only at hSw); go_simp; first | done | with_reducible rfl
  try simp only [Act.put, List.setIfInBounds_toArray, List.set_cons_zero, List.set_cons_succ]
  refine wpAnyH_take (i := 3) (oi := { dst := some 21, op := Op.pick (Operand.tmp 19) (Operand.tmp 20) (Operand.const (Value.bool false)), type := 4, pos := "law.go:184", after := #[{ on := 1, ground := Ground.data }, { on := 2, ground := Ground.data }], guard := none }) (v := ?_) rfl (by kernel_rfl) (by kernel_rfl) (by kernel_rfl) (fun _ _ _ h => h) (Or.inl ⟨by rfl, ?_⟩) (by assumption) ?_
  rotate_left
  · intro w hSw; (try dsimp only at hSw); go_simp; first | done | with_reducible rfl
  try simp only [Act.put, List.setIfInBounds_toArray, List.set_cons_zero, List.set_cons_succ]
  refine wpAnyH_take (i := 4) (oi := { dst := some 22, op := Op.move (Operand.tmp 21), type := 4, pos := "law.go:184", after := #[{ on := 3, ground := Ground.data }, { on := 1, ground := Ground.chain }], guard := none }) (v := ?_) rfl (by kernel_rfl) (by kernel_rfl) (by kernel_rfl) (fun _ _ _ h => h) (Or.inl ⟨by rfl, ?_⟩) (by assumption) ?_
  rotate_left
  · intro w hSw; (try dsimp only at hSw); go_simp; first | done | with_reducible rfl
  try simp only [Act.put, List.setIfInBounds_toArray, List.set_cons_zero, List.set_cons_succ]
  refine wpAnyH_take (i := 5) (oi := { dst := some 23, op := Op.move (Operand.tmp 7), type := 4, pos := "law.go:184", after := #[{ on := 4, ground := Ground.guard }], guard := some (4, true) }) (v := ?_) rfl (by kernel_rfl) (by kernel_rfl) (by kernel_rfl) (fun _ _ _ h => h) (Or.inl ⟨by rfl, ?_⟩) (by assumption) ?_
  rotate_left
  · intro w hSw; (try dsimp only at hSw); go_simp; first | done | with_reducible rfl
  try simp only [Act.put, List.setIfInBounds_toArray, List.set_cons_zero, List.set_cons_succ]
  refine wpAnyH_take (i := 6) (oi := { dst := some 24, op := Op.pick (Operand.tmp 22) (Operand.tmp 23) (Operand.const (Value.bool false)), type := 4, pos := "law.go:184", after := #[{ on := 4, ground := Ground.data }, { on := 5, ground := Ground.data }], guard := none }) (v := ?_) rfl (by kernel_rfl) (by kernel_rfl) (by kernel_rfl) (fun _ _ _ h => h) (Or.inl ⟨by rfl, ?_⟩) (by assumption) ?_
  rotate_left
  · intro w hSw; (try dsimp only at hSw); go_simp; first | done | with_reducible rfl
  try simp only [Act.put, List.setIfInBounds_toArray, List.set_cons_zero, List.set_cons_succ]
  refine wpAnyH_take (i := 7) (oi := { dst := some 25, op := Op.move (Operand.tmp 24), type := 4, pos := "law.go:184", after := #[{ on := 6, ground := Ground.data }, { on := 4, ground := Ground.chain }], guard := none }) (v := ?_) rfl (by kernel_rfl) (by kernel_rfl) (by kernel_rfl) (fun _ _ _ h => h) (Or.inl ⟨by rfl, ?_⟩) (by assumption) ?_
  rotate_left
  · intro w hSw; (try dsimp only at hSw); go_simp; first | done | with_reducible rfl
  try simp only [Act.put, List.setIfInBounds_toArray, List.set_cons_zero, List.set_cons_succ]
  refine wpAnyH_take (i := 8) (oi := { dst := some 26, op := Op.move (Operand.tmp 5), type := 29, pos := "law.go:184", after := #[{ on := 7, ground := Ground.guard }], guard := some (7, true) }) (v := ?_) rfl (by kernel_rfl) (by kernel_rfl) (by kernel_rfl) (fun _ _ _ h => h) (Or.inl ⟨by rfl, ?_⟩) (by assumption) ?_
  rotate_left
  · intro w hSw; (try dsimp only at hSw); go_simp; first | done | with_reducible rfl
  try simp only [Act.put, List.setIfInBounds_toArray, List.set_cons_zero, List.set_cons_succ]
  refine wpAnyH_take (i := 10) (oi := { dst := some 28, op := Op.load 26 (Operand.tmp 1), type := 26, pos := "law.go:184", after := #[{ on := 7, ground := Ground.guard }], guard := some (7, true) }) (v := _) rfl (by kernel_rfl) (by kernel_rfl) (by kernel_rfl) (fun _ _ _ h => h) (yieldsIf_load_mid (by rfl) _ _ rfl _ _ rfl _ _ (fun _ h => h) Tryd.underlying26 rfl (by kernel_rfl)) (by assumption) ?_
  try simp only [Act.put, List.setIfInBounds_toArray, List.set_cons_zero, List.set_cons_succ]
  refine wpAnyH_ready (rs := [9]) (by kernel_rfl) (by simp) ?_
  refine AllReadyH.cons (o := { dst := some 27, op := Op.call { callee := Callee.value (Operand.func 9), args := #[Operand.tmp 26], argTypes := #[29] }, type := 3, pos := "law.go:184", after := #[{ on := 8, ground := Ground.data }, { on := 7, ground := Ground.chain }, { on := 7, ground := Ground.guard }], guard := some (7, true) }) rfl (fun K hK => ?_) AllReadyH.nil
  go_simp
  go_wp2_with (first | (go_at_call 9; refine (hnum.out _).mono ?_; rintro x wn ⟨rfl, rfl⟩) | (go_at_call 10; refine (hcl.out _ (by (with_reducible repeat (first | assumption | exact Gr.refl _ | refine Gr.alloc ?_ _ | refine Gr.grow ?_ _ | refine Gr.drew ?_ | refine Gr.setCell ?_ _ _ _ (gr_size ?_))))).mono ?_; rintro x wq ⟨rfl, q9⟩; replace d1 : Gr wr wq := Gr.trans (by (with_reducible repeat (first | assumption | exact Gr.refl _ | refine Gr.alloc ?_ _ | refine Gr.grow ?_ _ | refine Gr.drew ?_ | refine Gr.setCell ?_ _ _ _ (gr_size ?_)))) q9; clear q9))
  refine hK.out _ _ (KS.out _ d1) (fun hHeld => ?_)
  clear hK K
  try simp only [Act.put, List.setIfInBounds_toArray, List.set_cons_zero, List.set_cons_succ]
  refine wpAnyH_ready (rs := [11]) (by kernel_rfl) (by simp) ?_
  refine AllReadyH.cons (o := { dst := some 29, op := Op.call { callee := Callee.value (Operand.func 10), args := #[Operand.tmp 28], argTypes := #[26] }, type := 3, pos := "law.go:184", after := #[{ on := 10, ground := Ground.data }, { on := 9, ground := Ground.chain }, { on := 7, ground := Ground.guard }], guard := some (7, true) }) rfl (fun K hK => ?_) AllReadyH.nil
  go_simp
  go_wp2_with (first | (go_at_call 9; refine (hnum.out _).mono ?_; rintro x wn ⟨rfl, rfl⟩) | (go_at_call 10; refine (hcl.out _ (by (with_reducible repeat (first | assumption | exact Gr.refl _ | refine Gr.alloc ?_ _ | refine Gr.grow ?_ _ | refine Gr.drew ?_ | refine Gr.setCell ?_ _ _ _ (gr_size ?_))))).mono ?_; rintro x wq ⟨rfl, q9⟩; replace d1 : Gr wr wq := Gr.trans (by (with_reducible repeat (first | assumption | exact Gr.refl _ | refine Gr.alloc ?_ _ | refine Gr.grow ?_ _ | refine Gr.drew ?_ | refine Gr.setCell ?_ _ _ _ (gr_size ?_)))) q9; clear q9))
  refine hK.out _ _ (KS.out _ d1) (fun hHeld => ?_)
  clear hK K
  try simp only [Act.put, List.setIfInBounds_toArray, List.set_cons_zero, List.set_cons_succ]
  refine wpAnyH_take (i := 12) (oi := { dst := some 30, op := Op.binOp BinOp.eql 3 (Operand.tmp 27) (Operand.tmp 29) 3, type := 4, pos := "law.go:184", after := #[{ on := 9, ground := Ground.data }, { on := 11, ground := Ground.data }, { on := 7, ground := Ground.guard }], guard := some (7, true) }) (v := ?_) rfl (by kernel_rfl) (by kernel_rfl) (by kernel_rfl) (fun _ _ _ h => h) (Or.inl ⟨by rfl, ?_⟩) (by assumption) ?_
  rotate_left
  · intro w hSw; (try dsimp only at hSw); go_simp; first | done | with_reducible rfl
  try simp only [Act.put, List.setIfInBounds_toArray, List.set_cons_zero, List.set_cons_succ]
  refine wpAnyH_take (i := 13) (oi := { dst := some 31, op := Op.pick (Operand.tmp 25) (Operand.tmp 30) (Operand.const (Value.bool false)), type := 4, pos := "law.go:184", after := #[{ on := 7, ground := Ground.data }, { on := 12, ground := Ground.data }], guard := none }) (v := ?_) rfl (by kernel_rfl) (by kernel_rfl) (by kernel_rfl) (fun _ _ _ h => h) (Or.inl ⟨by rfl, ?_⟩) (by assumption) ?_
  rotate_left
  · intro w hSw; (try dsimp only at hSw); go_simp; first | done | with_reducible rfl
  try simp only [Act.put, List.setIfInBounds_toArray, List.set_cons_zero, List.set_cons_succ]
  refine wpAnyH_take (i := 14) (oi := { dst := some 2, op := Op.assign (Operand.tmp 31), type := 4, pos := "law.go:184", after := #[{ on := 13, ground := Ground.data }, { on := 11, ground := Ground.chain }, { on := 0, ground := Ground.phase }, { on := 1, ground := Ground.phase }, { on := 2, ground := Ground.phase }, { on := 3, ground := Ground.phase }, { on := 4, ground := Ground.phase }, { on := 5, ground := Ground.phase }, { on := 6, ground := Ground.phase }, { on := 7, ground := Ground.phase }, { on := 8, ground := Ground.phase }, { on := 9, ground := Ground.phase }, { on := 10, ground := Ground.phase }, { on := 11, ground := Ground.phase }, { on := 12, ground := Ground.phase }, { on := 13, ground := Ground.phase }], guard := none }) (v := ?_) rfl (by kernel_rfl) (by kernel_rfl) (by kernel_rfl) (fun _ _ _ h => h) (Or.inl ⟨by rfl, ?_⟩) (by assumption) ?_
  rotate_left
  · intro w hSw; (try dsimp only at hSw); go_simp; first | done | with_reducible rfl
  try simp only [Act.put, List.setIfInBounds_toArray, List.set_cons_zero, List.set_cons_succ]
  refine wpAnyH_done (by kernel_rfl) ?_ _
  clear hHeld KS hcl hnum
  replace hal := Hid.mk (hal.out _ d1)
  go_wp2_with fail
  go_ret
  exact ⟨by simp, hal.out⟩
end Q
end Go.Proofs.YtbmdhjnhpblgiaaDoor
