import Derived.Test.YthfphgjjieddjaaGreatP29
import Derived.Test.YthfphgjjieddjaaGreatZReady
import Derived.Test.YthfphgjjieddjaaGreatP30
namespace Go.Proofs.YthfphgjjieddjaaGreat
set_option maxRecDepth 100000
set_option maxHeartbeats 40000000
namespace Z
open Go.RowKit
open T (Sep Ob Kp Mf FlIn boxOb)

theorem eat3 {w W : World} {a : Option Addr} {L : List Tc} (h : T.EIn 3 Tc.vals w a L) (g : Gr w W) (j : Nat) (hj : j < L.length) : ∃ b off : Nat, a = some ⟨b, off, none⟩ ∧ b < W.heap.size ∧ W.rangeAt b (off + j * 3) L[j].vals := by
 obtain ⟨b, off, e1, e2, e3⟩ := h j hj
 exact ⟨b, off, e1, Nat.lt_of_lt_of_le e2 g.below.size, fun i v q => (T.cell_of_block (g.below.block b e2) _).trans (e3 i v q)⟩
theorem sameTouches_any (A B : List Tc) (sa sb : Option Addr) (ca cb : Nat) (w : World) (hA : T.EIn 3 Tc.vals w sa A) (hB : T.EIn 3 Tc.vals w sb B) (hl : A.length ≤ 1000000) :
   Calls Tryz.prog 26 #[.slice sa A.length ca, .slice sb B.length cb] w fun x w' => Says (A = B) x ∧ Gr w w' := by
 by_cases hn : A.length = B.length
 rotate_left
 · have hni : ((A.length : Int) != (B.length : Int)) = true := by simp; omega
   have z : Hz (Says (A = B) (.returned (.bool false))) := Hz.mk ⟨false, rfl, iff_of_false (by decide) (fun q => hn (by rw [q]))⟩
   clear hn
   go_enter Tryz.func26, Tryz.ntmps26
   go_wp2_with fail
   go_ret
   exact ⟨z.out, Gr.refl _⟩
 have hni : ((A.length : Int) != (B.length : Int)) = false := by simp; omega
 replace hA := Hz.mk hA
 replace hB := Hz.mk hB
 replace hn := Hz.mk hn
 go_enter Tryz.func26, Tryz.ntmps26
 go_upto_region 4 with fail
 go_loopw [5] (fun x wr => ∃ j : Nat, x = .int .i64 j ∧ j ≤ A.length ∧ Hz (∀ m (h : m < A.length) (h2 : m < B.length), m < j → A[m] = B[m]) ∧ Hz (Gr w wr)) (fun x _ => A.length - (intOf x).toNat)
 case atStart => exact ⟨0, rfl, Nat.zero_le _, Hz.mk (fun m _ _ q => absurd q (Nat.not_lt_zero _)), Hz.mk (Gr.refl _)⟩
 case round =>
   obtain ⟨j, rfl, hjl, hbe, G⟩ := hrel
   by_cases hj : j < A.length
   · have hj2 : j < B.length := by rw [← hn.out]; exact hj
     have hj1 : (j : Int) < (A.length : Int) := Int.ofNat_lt.2 hj
     have hj3 : (j : Int) < (B.length : Int) := Int.ofNat_lt.2 hj2
     obtain ⟨b1, o1, rfl, k1, c1⟩ := eat3 hA.out G.out j hj
     obtain ⟨b2, o2, rfl, k2, c2⟩ := eat3 hB.out G.out j hj2
     have GD : Gr wr wr.drew := (Gr.refl wr).drew
     obtain ⟨x, hx⟩ : ∃ x, A[j] = x := ⟨_, rfl⟩
     obtain ⟨y, hy⟩ : ∃ y, B[j] = y := ⟨_, rfl⟩
     rw [hx] at c1
     rw [hy] at c2
     replace hx := Hz.mk hx
     replace hy := Hz.mk hy
     by_cases he : x = y
     rotate_left
     · have z : Hz (Says (A = B) (.returned (.bool false))) := Hz.mk ⟨false, rfl, iff_of_false (by decide) (fun q => he (by rw [← hx.out, ← hy.out]; subst q; rfl))⟩
       have h3 : x.s = y.s → x.a = y.a → ¬ x.n = y.n := fun e1 e2 e3 => he (by
         obtain ⟨x1, x2, x3⟩ := x
         obtain ⟨y1, y2, y3⟩ := y
         simp at e1 e2 e3
         rw [e1, e2, e3])
       clear he
       by_cases q1 : x.s = y.s
       · by_cases q2 : x.a = y.a
         · have q3 := h3 q1 q2
           clear h3
           go_upto_region 6 with fail
           refine wp_region_held_drew (S := (fun W => W.cell? ⟨b1, o1 + j * 3, none⟩ = some (.bool x.s) ∧ W.cell? ⟨b1, o1 + j * 3 + 1, none⟩ = some (.int .u64 x.a) ∧ W.cell? ⟨b1, o1 + j * 3 + 1 + 1, none⟩ = some (.int .u64 x.n) ∧ W.cell? ⟨b2, o2 + j * 3, none⟩ = some (.bool y.s) ∧ W.cell? ⟨b2, o2 + j * 3 + 1, none⟩ = some (.int .u64 y.a) ∧ W.cell? ⟨b2, o2 + j * 3 + 1 + 1, none⟩ = some (.int .u64 y.n))) (by kernel_rfl) (⟨(T.cell_of_block (GD.below.block b1 k1) _).trans (c1 0 _ rfl), (T.cell_of_block (GD.below.block b1 k1) _).trans (c1 1 _ rfl), (T.cell_of_block (GD.below.block b1 k1) _).trans (c1 2 _ rfl), (T.cell_of_block (GD.below.block b2 k2) _).trans (c2 0 _ rfl), (T.cell_of_block (GD.below.block b2 k2) _).trans (c2 1 _ rfl), (T.cell_of_block (GD.below.block b2 k2) _).trans (c2 2 _ rfl)⟩) (fun hHeld => ?_)
           refine xso 0 ?_ rfl ?_ (xso 1 ?_ rfl ?_ (xso 2 ?_ rfl ?_ (xso 3 ?_ rfl ?_ (xso 4 ?_ rfl ?_ (xso 5 ?_ rfl ?_ (xso 6 ?_ rfl ?_ (xso 7 ?_ rfl ?_ (xso 8 ?_ rfl ?_ ?_))))))))
           iterate 9 (rotate_left; focus ((try simp only [xap]); intro w hSw; (try dsimp only at hSw); go_simp; first | done | with_reducible rfl))
           try simp only [xap]
           refine xdn ?_ _
           clear hHeld
           go_wp2_with fail
           go_ret
           exact ⟨z.out, G.out.trans GD⟩
         · clear h3
           go_upto_region 6 with fail
           refine wp_region_held_drew (S := (fun W => W.cell? ⟨b1, o1 + j * 3, none⟩ = some (.bool x.s) ∧ W.cell? ⟨b1, o1 + j * 3 + 1, none⟩ = some (.int .u64 x.a) ∧ W.cell? ⟨b1, o1 + j * 3 + 1 + 1, none⟩ = some (.int .u64 x.n) ∧ W.cell? ⟨b2, o2 + j * 3, none⟩ = some (.bool y.s) ∧ W.cell? ⟨b2, o2 + j * 3 + 1, none⟩ = some (.int .u64 y.a) ∧ W.cell? ⟨b2, o2 + j * 3 + 1 + 1, none⟩ = some (.int .u64 y.n))) (by kernel_rfl) (⟨(T.cell_of_block (GD.below.block b1 k1) _).trans (c1 0 _ rfl), (T.cell_of_block (GD.below.block b1 k1) _).trans (c1 1 _ rfl), (T.cell_of_block (GD.below.block b1 k1) _).trans (c1 2 _ rfl), (T.cell_of_block (GD.below.block b2 k2) _).trans (c2 0 _ rfl), (T.cell_of_block (GD.below.block b2 k2) _).trans (c2 1 _ rfl), (T.cell_of_block (GD.below.block b2 k2) _).trans (c2 2 _ rfl)⟩) (fun hHeld => ?_)
           refine xso 0 ?_ rfl ?_ (xso 1 ?_ rfl ?_ (xso 2 ?_ rfl ?_ (xso 3 ?_ rfl ?_ (xso 4 ?_ rfl ?_ (xso 5 ?_ rfl ?_ (xso 6 ?_ rfl ?_ (xso 7 ?_ rfl ?_ (xso 8 ?_ rfl ?_ ?_))))))))
           iterate 9 (rotate_left; focus ((try simp only [xap]); intro w hSw; (try dsimp only at hSw); go_simp; first | done | with_reducible rfl))
           try simp only [xap]
           refine xdn ?_ _
           clear hHeld
           go_wp2_with fail
           go_ret
           exact ⟨z.out, G.out.trans GD⟩
       · clear h3
         go_upto_region 6 with fail
         refine wp_region_held_drew (S := (fun W => W.cell? ⟨b1, o1 + j * 3, none⟩ = some (.bool x.s) ∧ W.cell? ⟨b1, o1 + j * 3 + 1, none⟩ = some (.int .u64 x.a) ∧ W.cell? ⟨b1, o1 + j * 3 + 1 + 1, none⟩ = some (.int .u64 x.n) ∧ W.cell? ⟨b2, o2 + j * 3, none⟩ = some (.bool y.s) ∧ W.cell? ⟨b2, o2 + j * 3 + 1, none⟩ = some (.int .u64 y.a) ∧ W.cell? ⟨b2, o2 + j * 3 + 1 + 1, none⟩ = some (.int .u64 y.n))) (by kernel_rfl) (⟨(T.cell_of_block (GD.below.block b1 k1) _).trans (c1 0 _ rfl), (T.cell_of_block (GD.below.block b1 k1) _).trans (c1 1 _ rfl), (T.cell_of_block (GD.below.block b1 k1) _).trans (c1 2 _ rfl), (T.cell_of_block (GD.below.block b2 k2) _).trans (c2 0 _ rfl), (T.cell_of_block (GD.below.block b2 k2) _).trans (c2 1 _ rfl), (T.cell_of_block (GD.below.block b2 k2) _).trans (c2 2 _ rfl)⟩) (fun hHeld => ?_)
         refine xso 0 ?_ rfl ?_ (xso 1 ?_ rfl ?_ (xso 2 ?_ rfl ?_ (xso 3 ?_ rfl ?_ (xso 4 ?_ rfl ?_ (xso 5 ?_ rfl ?_ (xso 6 ?_ rfl ?_ (xso 7 ?_ rfl ?_ (xso 8 ?_ rfl ?_ ?_))))))))
         iterate 9 (rotate_left; focus ((try simp only [xap]); intro w hSw; (try dsimp only at hSw); go_simp; first | done | with_reducible rfl))
         try simp only [xap]
         refine xdn ?_ _
         clear hHeld
         go_wp2_with fail
         go_ret
         exact ⟨z.out, G.out.trans GD⟩
     subst he
     have hbe2 : Hz (∀ m (h : m < A.length) (h2 : m < B.length), m < j + 1 → A[m] = B[m]) := Hz.mk (fun m h h2 q => by
       by_cases e : m < j
       · exact hbe.out m h h2 e
       · obtain rfl : m = j := by omega
         rw [hx.out, hy.out])
     go_upto_region 6 with fail
     refine wp_region_held_drew (S := (fun W => W.cell? ⟨b1, o1 + j * 3, none⟩ = some (.bool x.s) ∧ W.cell? ⟨b1, o1 + j * 3 + 1, none⟩ = some (.int .u64 x.a) ∧ W.cell? ⟨b1, o1 + j * 3 + 1 + 1, none⟩ = some (.int .u64 x.n) ∧ W.cell? ⟨b2, o2 + j * 3, none⟩ = some (.bool x.s) ∧ W.cell? ⟨b2, o2 + j * 3 + 1, none⟩ = some (.int .u64 x.a) ∧ W.cell? ⟨b2, o2 + j * 3 + 1 + 1, none⟩ = some (.int .u64 x.n))) (by kernel_rfl) (⟨(T.cell_of_block (GD.below.block b1 k1) _).trans (c1 0 _ rfl), (T.cell_of_block (GD.below.block b1 k1) _).trans (c1 1 _ rfl), (T.cell_of_block (GD.below.block b1 k1) _).trans (c1 2 _ rfl), (T.cell_of_block (GD.below.block b2 k2) _).trans (c2 0 _ rfl), (T.cell_of_block (GD.below.block b2 k2) _).trans (c2 1 _ rfl), (T.cell_of_block (GD.below.block b2 k2) _).trans (c2 2 _ rfl)⟩) (fun hHeld => ?_)
     refine xso 0 ?_ rfl ?_ (xso 1 ?_ rfl ?_ (xso 2 ?_ rfl ?_ (xso 3 ?_ rfl ?_ (xso 4 ?_ rfl ?_ (xso 5 ?_ rfl ?_ (xso 6 ?_ rfl ?_ (xso 7 ?_ rfl ?_ (xso 8 ?_ rfl ?_ ?_))))))))
     iterate 9 (rotate_left; focus ((try simp only [xap]); intro w hSw; (try dsimp only at hSw); go_simp; first | done | with_reducible rfl))
     try simp only [xap]
     refine xdn ?_ _
     clear hHeld
     have G4 := Hz.mk (G.out.trans GD)
     clear hbe G GD
     go_wp2_with fail
     refine ⟨⟨j + 1, ?_, hj, hbe2, G4⟩, ?_⟩
     · first | rfl | (rw [show wrap64 ((j : Int) + 1) = ((j + 1 : Nat) : Int) by unfold wrap64; omega]) | go_num
     · first | (simp [intOf]; omega) | (rw [show wrap64 ((j : Int) + 1) = ((j + 1 : Nat) : Int) by unfold wrap64; omega]; simp [intOf]; omega)
   · have hj1 : ¬ (j : Int) < (A.length : Int) := fun q => hj (Int.ofNat_lt.1 q)
     have z : Hz (Says (A = B) (.returned (.bool true))) := Hz.mk ⟨true, rfl, iff_of_true rfl (List.ext_getElem hn.out (fun m h h2 => hbe.out m h h2 (by omega)))⟩
     go_wp2_with fail
     go_ret
     exact ⟨z.out, G.out⟩
end Z
end Go.Proofs.YthfphgjjieddjaaGreat


namespace Go.Proofs.YthfphgjjieddjaaGreat
namespace Z
open Go.RowKit
open T (Sep Ob Kp Mf FlIn boxOb)

end Z
end Go.Proofs.YthfphgjjieddjaaGreat
