import Derived.Test.YtdmkedpnkejpbaaDoorMDrA
import Derived.Test.YtdmkedpnkejpbaaDoorMRdN
/-
  Stage 4, image: the document's reader: types.
-/
namespace Go.Proofs.YtdmkedpnkejpbaaDoor
open Go.RowKit

theorem failS_e (e p : Int) (σ : RS) (he : e ≠ 0) : (failS e p σ).e ≠ 0 := by
  unfold failS
  split
  · exact he
  · assumption
theorem takeS_bad (S : List UInt8) (n : Nat) (σ : RS) (h : σ.e ≠ 0) : takeS S n σ = σ := if_neg h
theorem typS_bad (S : List UInt8) (σ : RS) (h : σ.e ≠ 0) : typS S σ = σ := by
  unfold typS
  simp only [takeS_bad S _ σ h]
theorem num_bad (S : List UInt8) (n : Nat) (σ : RS) (h : (takeS S n σ).e ≠ 0) : numV S n σ = 0 := by
  unfold takeS at h
  unfold numV takeV
  split
  · rename_i q
    rw [if_pos q] at h
    split
    · rename_i q2
      rw [if_pos q2] at h
      exact absurd rfl h
    · rfl
  · rfl
set_option maxRecDepth 10000 in
set_option maxHeartbeats 4000000 in
theorem dtyped_any (S : List UInt8) (kr : Nat) (σ : RS) (w : World) (h : DIn w kr S σ) (hi : σ.In S) (hS : S.length ≤ 1000000) :
    Calls Tryd.prog 40 #[.pointer (some ⟨kr, 0, none⟩)] w fun x w' => ∃ t : PTyp, x = .returned (.agg #[.bool t.cap, .int .u64 t.b, .int .u64 t.e, .int .u64 t.lo, .int .u64 t.hi, .int .u8 t.p, .int .i64 t.s]) ∧ DIn w' kr S (kindP S σ).2 ∧ w.grownBy w' (some kr) ∧ ((kindP S σ).2.e = 0 → t = (kindP S σ).1) := by
  have hS2 : S.length ≤ 140737488355328 := by omega
  have hg : Hid (w.grownBy w (some kr)) := Hid.mk (grown_of (Below.refl _ _) _)
  replace h := Hid.mk h
  have c0 := fun W h1 => dcount_any S kr 1 σ W h1 hi hS2 (by omega)
  have j0 := takeS_in (S := S) 1 hi
  have hF := fun W h1 => dno_any S kr (takeS S 1 σ) 44 σ.i W h1
  by_cases k0 : numV S 1 σ = 0
  · have r1 : kindP S σ = (zTyp, takeS S 1 σ) := by unfold kindP; rw [if_pos k0]
    rw [r1]
    rw [k0] at c0
    clear r1 k0 hF j0
    simp only
    generalize takeS S 1 σ = σ1 at *
    go_enter Tryd.func40, Tryd.ntmps40
    go_upto_region 1 with fail
    have Xx := Box.new w #[.bool false, .int .u64 0, .int .u64 0, .int .u64 0, .int .u64 0, .int .u8 0, .int .i64 0] 88
    have nkx : w.heap.size ≠ kr := by have := h.out.lt; omega
    have lx : w.heap.size ≤ w.heap.size := hg.out.size
    replace h : Hid (DIn (w.alloc (.cells #[.bool false, .int .u64 0, .int .u64 0, .int .u64 0, .int .u64 0, .int .u8 0, .int .i64 0] 88)) kr S σ) := Hid.mk (h.out.alloc _)
    replace hg := Hid.mk (hg.out.trans (grown_of ((Gr.refl w).alloc (.cells #[.bool false, .int .u64 0, .int .u64 0, .int .u64 0, .int .u64 0, .int .u8 0, .int .i64 0] 88)).below (some kr)))
    generalize w.alloc (.cells #[.bool false, .int .u64 0, .int .u64 0, .int .u64 0, .int .u64 0, .int .u8 0, .int .i64 0] 88) = W1 at *
    replace Xx := Hid.mk Xx
    replace nkx := Hid.mk nkx
    replace lx := Hid.mk lx
    have ⟨zh, ph, fh⟩ := h.out.at
    go_wp2_with fail
    clear zh ph fh
    refine (c0 _ h.out).mono ?_
    rintro x W2 ⟨rfl, h1, hg2⟩
    replace Xx := Hid.mk (Xx.out.kept hg2 nkx.out)
    replace hg := Hid.mk (hg.out.trans hg2)
    replace h := Hid.mk h1
    clear hg2 h1 c0
    go_upto_region 4 with fail
    have Xt := Box.new W2 #[.bool false, .int .u64 0, .int .u64 0, .int .u64 0, .int .u64 0, .int .u8 0, .int .i64 0] 88
    have nkt : W2.heap.size ≠ kr := by have := h.out.lt; omega
    have lt : w.heap.size ≤ W2.heap.size := hg.out.size
    have nnxt : w.heap.size ≠ W2.heap.size := by have := Xx.out.lt; omega
    replace Xx := Hid.mk (Xx.out.alloc (.cells #[.bool false, .int .u64 0, .int .u64 0, .int .u64 0, .int .u64 0, .int .u8 0, .int .i64 0] 88))
    replace h : Hid (DIn (W2.alloc (.cells #[.bool false, .int .u64 0, .int .u64 0, .int .u64 0, .int .u64 0, .int .u8 0, .int .i64 0] 88)) kr S σ1) := Hid.mk (h.out.alloc _)
    replace hg := Hid.mk (hg.out.trans (grown_of ((Gr.refl W2).alloc (.cells #[.bool false, .int .u64 0, .int .u64 0, .int .u64 0, .int .u64 0, .int .u8 0, .int .i64 0] 88)).below (some kr)))
    generalize W2.alloc (.cells #[.bool false, .int .u64 0, .int .u64 0, .int .u64 0, .int .u64 0, .int .u8 0, .int .i64 0] 88) = W3 at *
    generalize W2.heap.size = kt at *
    replace Xt := Hid.mk Xt
    replace nkt := Hid.mk nkt
    replace lt := Hid.mk lt
    replace nnxt := Hid.mk nnxt
    have ⟨zt, pt, ft⟩ := Xt.out.at
    have ⟨zx, px, fx⟩ := Xx.out.at
    go_wp2_with fail
    have b4 : Box (((((((W3.setCell ⟨w.heap.size, 0, none⟩ (.bool false)).setCell ⟨w.heap.size, 1, none⟩ (.int .u64 0)).setCell ⟨w.heap.size, 2, none⟩ (.int .u64 0)).setCell ⟨w.heap.size, 3, none⟩ (.int .u64 0)).setCell ⟨w.heap.size, 4, none⟩ (.int .u64 0)).setCell ⟨w.heap.size, 5, none⟩ (.int .u8 0)).setCell ⟨w.heap.size, 6, none⟩ (.int .i64 0)) w.heap.size #[.bool false, .int .u64 0, .int .u64 0, .int .u64 0, .int .u64 0, .int .u8 0, .int .i64 0] 88 := Box.setRow Xx.out [.bool false, .int .u64 0, .int .u64 0, .int .u64 0, .int .u64 0, .int .u8 0, .int .i64 0] rfl
    have h4 : DIn (((((((W3.setCell ⟨w.heap.size, 0, none⟩ (.bool false)).setCell ⟨w.heap.size, 1, none⟩ (.int .u64 0)).setCell ⟨w.heap.size, 2, none⟩ (.int .u64 0)).setCell ⟨w.heap.size, 3, none⟩ (.int .u64 0)).setCell ⟨w.heap.size, 4, none⟩ (.int .u64 0)).setCell ⟨w.heap.size, 5, none⟩ (.int .u8 0)).setCell ⟨w.heap.size, 6, none⟩ (.int .i64 0)) kr S σ1 := Box.setRow_other (cs := [.bool false, .int .u64 0, .int .u64 0, .int .u64 0, .int .u64 0, .int .u8 0, .int .i64 0]) (j := 0) h.out nkx.out
    have hg4 : w.grownBy (((((((W3.setCell ⟨w.heap.size, 0, none⟩ (.bool false)).setCell ⟨w.heap.size, 1, none⟩ (.int .u64 0)).setCell ⟨w.heap.size, 2, none⟩ (.int .u64 0)).setCell ⟨w.heap.size, 3, none⟩ (.int .u64 0)).setCell ⟨w.heap.size, 4, none⟩ (.int .u64 0)).setCell ⟨w.heap.size, 5, none⟩ (.int .u8 0)).setCell ⟨w.heap.size, 6, none⟩ (.int .i64 0)) (some kr) := grown_row [.bool false, .int .u64 0, .int .u64 0, .int .u64 0, .int .u64 0, .int .u8 0, .int .i64 0] (j := 0) hg.out lx.out
    have ⟨_, q4, _⟩ := b4.at
    clear b4 h hg Xx Xt 
    generalize (((((((W3.setCell ⟨w.heap.size, 0, none⟩ (.bool false)).setCell ⟨w.heap.size, 1, none⟩ (.int .u64 0)).setCell ⟨w.heap.size, 2, none⟩ (.int .u64 0)).setCell ⟨w.heap.size, 3, none⟩ (.int .u64 0)).setCell ⟨w.heap.size, 4, none⟩ (.int .u64 0)).setCell ⟨w.heap.size, 5, none⟩ (.int .u8 0)).setCell ⟨w.heap.size, 6, none⟩ (.int .i64 0)) = W4 at *
    simp [bodyPost, results, Tryd.results40, go_sem, q4]
    exact ⟨zTyp, ⟨rfl, rfl, rfl, rfl, rfl, rfl, rfl⟩, h4, hg4, fun _ => rfl⟩
  have k0b : (numV S 1 σ == 0) = false := by simpa using k0
  by_cases k1 : numV S 1 σ = 1
  · have r1 : kindP S σ = (typV S (takeS S 1 σ), typS S (takeS S 1 σ)) := by unfold kindP; rw [if_neg k0, if_pos k1]
    rw [r1]
    rw [k1] at c0
    clear k0 k0b r1 k1 hF
    simp only
    generalize takeS S 1 σ = τ at *
    have jt := j0
    have c1 := fun W h1 => dnumber_any S kr 8 τ W h1 jt hS2 (by omega)
    have j1 := takeS_in (S := S) 8 jt
    have c2 := fun W h1 => dnumber_any S kr 8 (takeS S 8 τ) W h1 j1 hS2 (by omega)
    have j2 := takeS_in (S := S) 8 j1
    have c3 := fun W h1 => dnumber_any S kr 8 (takeS S 8 (takeS S 8 τ)) W h1 j2 hS2 (by omega)
    have j3 := takeS_in (S := S) 8 j2
    have c4 := fun W h1 => dnumber_any S kr 8 (takeS S 8 (takeS S 8 (takeS S 8 τ))) W h1 j3 hS2 (by omega)
    have j4 := takeS_in (S := S) 8 j3
    have c5 := fun W h1 => dcount_any S kr 1 (takeS S 8 (takeS S 8 (takeS S 8 (takeS S 8 τ)))) W h1 j4 hS2 (by omega)
    have j5 := takeS_in (S := S) 1 j4
    have c6 := fun W h1 => dcount_any S kr 1 (takeS S 1 (takeS S 8 (takeS S 8 (takeS S 8 (takeS S 8 τ))))) W h1 j5 hS2 (by omega)
    have hr5 := num1 S (takeS S 8 (takeS S 8 (takeS S 8 (takeS S 8 τ))))
    have hT : Hid (typV S τ = ⟨true, numV S 8 τ, numV S 8 (takeS S 8 τ), numV S 8 (takeS S 8 (takeS S 8 τ)), numV S 8 (takeS S 8 (takeS S 8 (takeS S 8 τ))), numV S 1 (takeS S 8 (takeS S 8 (takeS S 8 (takeS S 8 τ)))), numV S 1 (takeS S 1 (takeS S 8 (takeS S 8 (takeS S 8 (takeS S 8 τ)))))⟩) := Hid.mk rfl
    have hE : Hid (typS S τ = takeS S 1 (takeS S 1 (takeS S 8 (takeS S 8 (takeS S 8 (takeS S 8 τ)))))) := Hid.mk rfl
    clear j1 j2 j3 j4 j5 jt
    generalize numV S 1 (takeS S 1 (takeS S 8 (takeS S 8 (takeS S 8 (takeS S 8 τ))))) = y6 at *
    generalize takeS S 1 (takeS S 1 (takeS S 8 (takeS S 8 (takeS S 8 (takeS S 8 τ))))) = s6 at *
    generalize numV S 1 (takeS S 8 (takeS S 8 (takeS S 8 (takeS S 8 τ)))) = y5 at *
    generalize takeS S 1 (takeS S 8 (takeS S 8 (takeS S 8 (takeS S 8 τ)))) = s5 at *
    generalize numV S 8 (takeS S 8 (takeS S 8 (takeS S 8 τ))) = y4 at *
    generalize takeS S 8 (takeS S 8 (takeS S 8 (takeS S 8 τ))) = s4 at *
    generalize numV S 8 (takeS S 8 (takeS S 8 τ)) = y3 at *
    generalize takeS S 8 (takeS S 8 (takeS S 8 τ)) = s3 at *
    generalize numV S 8 (takeS S 8 τ) = y2 at *
    generalize takeS S 8 (takeS S 8 τ) = s2 at *
    generalize numV S 8 τ = y1 at *
    generalize takeS S 8 τ = s1 at *
    have hw5 : IntKind.u8.wrap y5 = y5 := by rw [IntKind.wrap_u8]; omega
    clear hr5
    clear j0
    generalize τ = σ1 at *
    go_enter Tryd.func40, Tryd.ntmps40
    go_upto_region 1 with fail
    have Xx := Box.new w #[.bool false, .int .u64 0, .int .u64 0, .int .u64 0, .int .u64 0, .int .u8 0, .int .i64 0] 88
    have nkx : w.heap.size ≠ kr := by have := h.out.lt; omega
    have lx : w.heap.size ≤ w.heap.size := hg.out.size
    replace h : Hid (DIn (w.alloc (.cells #[.bool false, .int .u64 0, .int .u64 0, .int .u64 0, .int .u64 0, .int .u8 0, .int .i64 0] 88)) kr S σ) := Hid.mk (h.out.alloc _)
    replace hg := Hid.mk (hg.out.trans (grown_of ((Gr.refl w).alloc (.cells #[.bool false, .int .u64 0, .int .u64 0, .int .u64 0, .int .u64 0, .int .u8 0, .int .i64 0] 88)).below (some kr)))
    generalize w.alloc (.cells #[.bool false, .int .u64 0, .int .u64 0, .int .u64 0, .int .u64 0, .int .u8 0, .int .i64 0] 88) = W1 at *
    replace Xx := Hid.mk Xx
    replace nkx := Hid.mk nkx
    replace lx := Hid.mk lx
    have ⟨zh, ph, fh⟩ := h.out.at
    go_wp2_with fail
    clear zh ph fh
    refine (c0 _ h.out).mono ?_
    rintro x W2 ⟨rfl, h1, hg2⟩
    replace Xx := Hid.mk (Xx.out.kept hg2 nkx.out)
    replace hg := Hid.mk (hg.out.trans hg2)
    replace h := Hid.mk h1
    clear hg2 h1 c0
    go_upto_region 4 with fail
    have Xt := Box.new W2 #[.bool false, .int .u64 0, .int .u64 0, .int .u64 0, .int .u64 0, .int .u8 0, .int .i64 0] 88
    have nkt : W2.heap.size ≠ kr := by have := h.out.lt; omega
    have lt : w.heap.size ≤ W2.heap.size := hg.out.size
    have nnxt : w.heap.size ≠ W2.heap.size := by have := Xx.out.lt; omega
    replace Xx := Hid.mk (Xx.out.alloc (.cells #[.bool false, .int .u64 0, .int .u64 0, .int .u64 0, .int .u64 0, .int .u8 0, .int .i64 0] 88))
    replace h : Hid (DIn (W2.alloc (.cells #[.bool false, .int .u64 0, .int .u64 0, .int .u64 0, .int .u64 0, .int .u8 0, .int .i64 0] 88)) kr S σ1) := Hid.mk (h.out.alloc _)
    replace hg := Hid.mk (hg.out.trans (grown_of ((Gr.refl W2).alloc (.cells #[.bool false, .int .u64 0, .int .u64 0, .int .u64 0, .int .u64 0, .int .u8 0, .int .i64 0] 88)).below (some kr)))
    generalize W2.alloc (.cells #[.bool false, .int .u64 0, .int .u64 0, .int .u64 0, .int .u64 0, .int .u8 0, .int .i64 0] 88) = W3 at *
    generalize W2.heap.size = kt at *
    replace Xt := Hid.mk Xt
    replace nkt := Hid.mk nkt
    replace lt := Hid.mk lt
    replace nnxt := Hid.mk nnxt
    have ⟨zt, pt, ft⟩ := Xt.out.at
    have ⟨zx, px, fx⟩ := Xx.out.at
    go_wp2_with fail
    clear zt pt ft zx px fx
    replace Xx : Hid (Box (W3.setCell ⟨kt, 0, none⟩ (.bool true)) w.heap.size #[.bool false, .int .u64 0, .int .u64 0, .int .u64 0, .int .u64 0, .int .u8 0, .int .i64 0] 88) := Hid.mk (Box.setRow_other (cs := [.bool true]) (j := 0) Xx.out nnxt.out.symm)
    replace Xt : Hid (Box (W3.setCell ⟨kt, 0, none⟩ (.bool true)) kt #[.bool true, .int .u64 0, .int .u64 0, .int .u64 0, .int .u64 0, .int .u8 0, .int .i64 0] 88) := Hid.mk (by have q := Xt.out.set 0 (.bool true); simpa using q)
    replace h : Hid (DIn (W3.setCell ⟨kt, 0, none⟩ (.bool true)) kr S σ1) := Hid.mk (Box.setRow_other (cs := [.bool true]) (j := 0) h.out nkt.out)
    replace hg : Hid (w.grownBy (W3.setCell ⟨kt, 0, none⟩ (.bool true)) (some kr)) := Hid.mk (grown_row [.bool true] (j := 0) hg.out lt.out)
    generalize (W3.setCell ⟨kt, 0, none⟩ (.bool true)) = W4 at *
    refine (c1 _ h.out).mono ?_
    rintro x W5 ⟨rfl, h1, hg2⟩
    replace Xx := Hid.mk (Xx.out.kept hg2 nkx.out)
    replace Xt := Hid.mk (Xt.out.kept hg2 nkt.out)
    replace hg := Hid.mk (hg.out.trans hg2)
    replace h := Hid.mk h1
    clear hg2 h1 c1
    have ⟨zt, pt, ft⟩ := Xt.out.at
    go_wp2_with fail
    clear zt pt ft
    replace Xx : Hid (Box (W5.setCell ⟨kt, 1, none⟩ (.int .u64 y1)) w.heap.size #[.bool false, .int .u64 0, .int .u64 0, .int .u64 0, .int .u64 0, .int .u8 0, .int .i64 0] 88) := Hid.mk (Box.setRow_other (cs := [.int .u64 y1]) (j := 1) Xx.out nnxt.out.symm)
    replace Xt : Hid (Box (W5.setCell ⟨kt, 1, none⟩ (.int .u64 y1)) kt #[.bool true, .int .u64 y1, .int .u64 0, .int .u64 0, .int .u64 0, .int .u8 0, .int .i64 0] 88) := Hid.mk (by have q := Xt.out.set 1 (.int .u64 y1); simpa using q)
    replace h : Hid (DIn (W5.setCell ⟨kt, 1, none⟩ (.int .u64 y1)) kr S s1) := Hid.mk (Box.setRow_other (cs := [.int .u64 y1]) (j := 1) h.out nkt.out)
    replace hg : Hid (w.grownBy (W5.setCell ⟨kt, 1, none⟩ (.int .u64 y1)) (some kr)) := Hid.mk (grown_row [.int .u64 y1] (j := 1) hg.out lt.out)
    generalize (W5.setCell ⟨kt, 1, none⟩ (.int .u64 y1)) = W6 at *
    refine (c2 _ h.out).mono ?_
    rintro x W7 ⟨rfl, h1, hg2⟩
    replace Xx := Hid.mk (Xx.out.kept hg2 nkx.out)
    replace Xt := Hid.mk (Xt.out.kept hg2 nkt.out)
    replace hg := Hid.mk (hg.out.trans hg2)
    replace h := Hid.mk h1
    clear hg2 h1 c2
    have ⟨zt, pt, ft⟩ := Xt.out.at
    go_wp2_with fail
    clear zt pt ft
    replace Xx : Hid (Box (W7.setCell ⟨kt, 2, none⟩ (.int .u64 y2)) w.heap.size #[.bool false, .int .u64 0, .int .u64 0, .int .u64 0, .int .u64 0, .int .u8 0, .int .i64 0] 88) := Hid.mk (Box.setRow_other (cs := [.int .u64 y2]) (j := 2) Xx.out nnxt.out.symm)
    replace Xt : Hid (Box (W7.setCell ⟨kt, 2, none⟩ (.int .u64 y2)) kt #[.bool true, .int .u64 y1, .int .u64 y2, .int .u64 0, .int .u64 0, .int .u8 0, .int .i64 0] 88) := Hid.mk (by have q := Xt.out.set 2 (.int .u64 y2); simpa using q)
    replace h : Hid (DIn (W7.setCell ⟨kt, 2, none⟩ (.int .u64 y2)) kr S s2) := Hid.mk (Box.setRow_other (cs := [.int .u64 y2]) (j := 2) h.out nkt.out)
    replace hg : Hid (w.grownBy (W7.setCell ⟨kt, 2, none⟩ (.int .u64 y2)) (some kr)) := Hid.mk (grown_row [.int .u64 y2] (j := 2) hg.out lt.out)
    generalize (W7.setCell ⟨kt, 2, none⟩ (.int .u64 y2)) = W8 at *
    refine (c3 _ h.out).mono ?_
    rintro x W9 ⟨rfl, h1, hg2⟩
    replace Xx := Hid.mk (Xx.out.kept hg2 nkx.out)
    replace Xt := Hid.mk (Xt.out.kept hg2 nkt.out)
    replace hg := Hid.mk (hg.out.trans hg2)
    replace h := Hid.mk h1
    clear hg2 h1 c3
    have ⟨zt, pt, ft⟩ := Xt.out.at
    go_wp2_with fail
    clear zt pt ft
    replace Xx : Hid (Box (W9.setCell ⟨kt, 3, none⟩ (.int .u64 y3)) w.heap.size #[.bool false, .int .u64 0, .int .u64 0, .int .u64 0, .int .u64 0, .int .u8 0, .int .i64 0] 88) := Hid.mk (Box.setRow_other (cs := [.int .u64 y3]) (j := 3) Xx.out nnxt.out.symm)
    replace Xt : Hid (Box (W9.setCell ⟨kt, 3, none⟩ (.int .u64 y3)) kt #[.bool true, .int .u64 y1, .int .u64 y2, .int .u64 y3, .int .u64 0, .int .u8 0, .int .i64 0] 88) := Hid.mk (by have q := Xt.out.set 3 (.int .u64 y3); simpa using q)
    replace h : Hid (DIn (W9.setCell ⟨kt, 3, none⟩ (.int .u64 y3)) kr S s3) := Hid.mk (Box.setRow_other (cs := [.int .u64 y3]) (j := 3) h.out nkt.out)
    replace hg : Hid (w.grownBy (W9.setCell ⟨kt, 3, none⟩ (.int .u64 y3)) (some kr)) := Hid.mk (grown_row [.int .u64 y3] (j := 3) hg.out lt.out)
    generalize (W9.setCell ⟨kt, 3, none⟩ (.int .u64 y3)) = W10 at *
    refine (c4 _ h.out).mono ?_
    rintro x W11 ⟨rfl, h1, hg2⟩
    replace Xx := Hid.mk (Xx.out.kept hg2 nkx.out)
    replace Xt := Hid.mk (Xt.out.kept hg2 nkt.out)
    replace hg := Hid.mk (hg.out.trans hg2)
    replace h := Hid.mk h1
    clear hg2 h1 c4
    have ⟨zt, pt, ft⟩ := Xt.out.at
    go_wp2_with fail
    clear zt pt ft
    replace Xx : Hid (Box (W11.setCell ⟨kt, 4, none⟩ (.int .u64 y4)) w.heap.size #[.bool false, .int .u64 0, .int .u64 0, .int .u64 0, .int .u64 0, .int .u8 0, .int .i64 0] 88) := Hid.mk (Box.setRow_other (cs := [.int .u64 y4]) (j := 4) Xx.out nnxt.out.symm)
    replace Xt : Hid (Box (W11.setCell ⟨kt, 4, none⟩ (.int .u64 y4)) kt #[.bool true, .int .u64 y1, .int .u64 y2, .int .u64 y3, .int .u64 y4, .int .u8 0, .int .i64 0] 88) := Hid.mk (by have q := Xt.out.set 4 (.int .u64 y4); simpa using q)
    replace h : Hid (DIn (W11.setCell ⟨kt, 4, none⟩ (.int .u64 y4)) kr S s4) := Hid.mk (Box.setRow_other (cs := [.int .u64 y4]) (j := 4) h.out nkt.out)
    replace hg : Hid (w.grownBy (W11.setCell ⟨kt, 4, none⟩ (.int .u64 y4)) (some kr)) := Hid.mk (grown_row [.int .u64 y4] (j := 4) hg.out lt.out)
    generalize (W11.setCell ⟨kt, 4, none⟩ (.int .u64 y4)) = W12 at *
    refine (c5 _ h.out).mono ?_
    rintro x W13 ⟨rfl, h1, hg2⟩
    replace Xx := Hid.mk (Xx.out.kept hg2 nkx.out)
    replace Xt := Hid.mk (Xt.out.kept hg2 nkt.out)
    replace hg := Hid.mk (hg.out.trans hg2)
    replace h := Hid.mk h1
    clear hg2 h1 c5
    have ⟨zt, pt, ft⟩ := Xt.out.at
    go_wp2_with fail
    clear zt pt ft
    replace Xx : Hid (Box (W13.setCell ⟨kt, 5, none⟩ (.int .u8 y5)) w.heap.size #[.bool false, .int .u64 0, .int .u64 0, .int .u64 0, .int .u64 0, .int .u8 0, .int .i64 0] 88) := Hid.mk (Box.setRow_other (cs := [.int .u8 y5]) (j := 5) Xx.out nnxt.out.symm)
    replace Xt : Hid (Box (W13.setCell ⟨kt, 5, none⟩ (.int .u8 y5)) kt #[.bool true, .int .u64 y1, .int .u64 y2, .int .u64 y3, .int .u64 y4, .int .u8 y5, .int .i64 0] 88) := Hid.mk (by have q := Xt.out.set 5 (.int .u8 y5); simpa using q)
    replace h : Hid (DIn (W13.setCell ⟨kt, 5, none⟩ (.int .u8 y5)) kr S s5) := Hid.mk (Box.setRow_other (cs := [.int .u8 y5]) (j := 5) h.out nkt.out)
    replace hg : Hid (w.grownBy (W13.setCell ⟨kt, 5, none⟩ (.int .u8 y5)) (some kr)) := Hid.mk (grown_row [.int .u8 y5] (j := 5) hg.out lt.out)
    generalize (W13.setCell ⟨kt, 5, none⟩ (.int .u8 y5)) = W14 at *
    refine (c6 _ h.out).mono ?_
    rintro x W15 ⟨rfl, h1, hg2⟩
    replace Xx := Hid.mk (Xx.out.kept hg2 nkx.out)
    replace Xt := Hid.mk (Xt.out.kept hg2 nkt.out)
    replace hg := Hid.mk (hg.out.trans hg2)
    replace h := Hid.mk h1
    clear hg2 h1 c6
    have ⟨zt, pt, ft⟩ := Xt.out.at
    go_upto_region 15 with fail
    clear zt pt ft
    replace Xx : Hid (Box (W15.setCell ⟨kt, 6, none⟩ (.int .i64 y6)) w.heap.size #[.bool false, .int .u64 0, .int .u64 0, .int .u64 0, .int .u64 0, .int .u8 0, .int .i64 0] 88) := Hid.mk (Box.setRow_other (cs := [.int .i64 y6]) (j := 6) Xx.out nnxt.out.symm)
    replace Xt : Hid (Box (W15.setCell ⟨kt, 6, none⟩ (.int .i64 y6)) kt #[.bool true, .int .u64 y1, .int .u64 y2, .int .u64 y3, .int .u64 y4, .int .u8 y5, .int .i64 y6] 88) := Hid.mk (by have q := Xt.out.set 6 (.int .i64 y6); simpa using q)
    replace h : Hid (DIn (W15.setCell ⟨kt, 6, none⟩ (.int .i64 y6)) kr S s6) := Hid.mk (Box.setRow_other (cs := [.int .i64 y6]) (j := 6) h.out nkt.out)
    replace hg : Hid (w.grownBy (W15.setCell ⟨kt, 6, none⟩ (.int .i64 y6)) (some kr)) := Hid.mk (grown_row [.int .i64 y6] (j := 6) hg.out lt.out)
    generalize (W15.setCell ⟨kt, 6, none⟩ (.int .i64 y6)) = W16 at *
    have ⟨zt, pt, ft⟩ := Xt.out.at
    have ⟨zx, px, fx⟩ := Xx.out.at
    go_wp2_with fail
    have b4 : Box (((((((W16.setCell ⟨w.heap.size, 0, none⟩ (.bool true)).setCell ⟨w.heap.size, 1, none⟩ (.int .u64 y1)).setCell ⟨w.heap.size, 2, none⟩ (.int .u64 y2)).setCell ⟨w.heap.size, 3, none⟩ (.int .u64 y3)).setCell ⟨w.heap.size, 4, none⟩ (.int .u64 y4)).setCell ⟨w.heap.size, 5, none⟩ (.int .u8 y5)).setCell ⟨w.heap.size, 6, none⟩ (.int .i64 y6)) w.heap.size #[.bool true, .int .u64 y1, .int .u64 y2, .int .u64 y3, .int .u64 y4, .int .u8 y5, .int .i64 y6] 88 := Box.setRow Xx.out [.bool true, .int .u64 y1, .int .u64 y2, .int .u64 y3, .int .u64 y4, .int .u8 y5, .int .i64 y6] rfl
    have h4 : DIn (((((((W16.setCell ⟨w.heap.size, 0, none⟩ (.bool true)).setCell ⟨w.heap.size, 1, none⟩ (.int .u64 y1)).setCell ⟨w.heap.size, 2, none⟩ (.int .u64 y2)).setCell ⟨w.heap.size, 3, none⟩ (.int .u64 y3)).setCell ⟨w.heap.size, 4, none⟩ (.int .u64 y4)).setCell ⟨w.heap.size, 5, none⟩ (.int .u8 y5)).setCell ⟨w.heap.size, 6, none⟩ (.int .i64 y6)) kr S s6 := Box.setRow_other (cs := [.bool true, .int .u64 y1, .int .u64 y2, .int .u64 y3, .int .u64 y4, .int .u8 y5, .int .i64 y6]) (j := 0) h.out nkx.out
    have hg4 : w.grownBy (((((((W16.setCell ⟨w.heap.size, 0, none⟩ (.bool true)).setCell ⟨w.heap.size, 1, none⟩ (.int .u64 y1)).setCell ⟨w.heap.size, 2, none⟩ (.int .u64 y2)).setCell ⟨w.heap.size, 3, none⟩ (.int .u64 y3)).setCell ⟨w.heap.size, 4, none⟩ (.int .u64 y4)).setCell ⟨w.heap.size, 5, none⟩ (.int .u8 y5)).setCell ⟨w.heap.size, 6, none⟩ (.int .i64 y6)) (some kr) := grown_row [.bool true, .int .u64 y1, .int .u64 y2, .int .u64 y3, .int .u64 y4, .int .u8 y5, .int .i64 y6] (j := 0) hg.out lx.out
    have ⟨_, q4, _⟩ := b4.at
    clear b4 h hg Xx Xt 
    generalize (((((((W16.setCell ⟨w.heap.size, 0, none⟩ (.bool true)).setCell ⟨w.heap.size, 1, none⟩ (.int .u64 y1)).setCell ⟨w.heap.size, 2, none⟩ (.int .u64 y2)).setCell ⟨w.heap.size, 3, none⟩ (.int .u64 y3)).setCell ⟨w.heap.size, 4, none⟩ (.int .u64 y4)).setCell ⟨w.heap.size, 5, none⟩ (.int .u8 y5)).setCell ⟨w.heap.size, 6, none⟩ (.int .i64 y6)) = W4 at *
    simp [bodyPost, results, Tryd.results40, go_sem, q4]
    refine ⟨⟨true, y1, y2, y3, y4, y5, y6⟩, ⟨rfl, rfl, rfl, rfl, rfl, rfl, rfl⟩, ?_, hg4, ?_⟩
    · rw [hE.out]; exact h4
    · intro _; exact hT.out.symm
  have k1b : (numV S 1 σ != 1) = true := by simpa using k1
  have r1 : kindP S σ = (zTyp, failS 44 σ.i (takeS S 1 σ)) := by unfold kindP; rw [if_neg k0, if_neg k1]
  rw [r1]
  clear k0 k1 r1
  simp only
  have jt := failS_in (S := S) 44 σ.i j0
  have hbad := failS_e 44 σ.i (takeS S 1 σ) (by decide)
  generalize numV S 1 σ = y0 at *
  generalize failS 44 σ.i (takeS S 1 σ) = τ at *
  generalize takeS S 1 σ = σ1 at *
  have hst := typS_bad S τ hbad
  have c1 := fun W h1 => dnumber_any S kr 8 τ W h1 jt hS2 (by omega)
  have j1 := takeS_in (S := S) 8 jt
  have c2 := fun W h1 => dnumber_any S kr 8 (takeS S 8 τ) W h1 j1 hS2 (by omega)
  have j2 := takeS_in (S := S) 8 j1
  have c3 := fun W h1 => dnumber_any S kr 8 (takeS S 8 (takeS S 8 τ)) W h1 j2 hS2 (by omega)
  have j3 := takeS_in (S := S) 8 j2
  have c4 := fun W h1 => dnumber_any S kr 8 (takeS S 8 (takeS S 8 (takeS S 8 τ))) W h1 j3 hS2 (by omega)
  have j4 := takeS_in (S := S) 8 j3
  have c5 := fun W h1 => dcount_any S kr 1 (takeS S 8 (takeS S 8 (takeS S 8 (takeS S 8 τ)))) W h1 j4 hS2 (by omega)
  have j5 := takeS_in (S := S) 1 j4
  have c6 := fun W h1 => dcount_any S kr 1 (takeS S 1 (takeS S 8 (takeS S 8 (takeS S 8 (takeS S 8 τ))))) W h1 j5 hS2 (by omega)
  have hr5 := num1 S (takeS S 8 (takeS S 8 (takeS S 8 (takeS S 8 τ))))
  have hT : Hid (typV S τ = ⟨true, numV S 8 τ, numV S 8 (takeS S 8 τ), numV S 8 (takeS S 8 (takeS S 8 τ)), numV S 8 (takeS S 8 (takeS S 8 (takeS S 8 τ))), numV S 1 (takeS S 8 (takeS S 8 (takeS S 8 (takeS S 8 τ)))), numV S 1 (takeS S 1 (takeS S 8 (takeS S 8 (takeS S 8 (takeS S 8 τ)))))⟩) := Hid.mk rfl
  have hE : Hid (typS S τ = takeS S 1 (takeS S 1 (takeS S 8 (takeS S 8 (takeS S 8 (takeS S 8 τ)))))) := Hid.mk rfl
  clear j1 j2 j3 j4 j5 jt
  generalize numV S 1 (takeS S 1 (takeS S 8 (takeS S 8 (takeS S 8 (takeS S 8 τ))))) = y6 at *
  generalize takeS S 1 (takeS S 1 (takeS S 8 (takeS S 8 (takeS S 8 (takeS S 8 τ))))) = s6 at *
  generalize numV S 1 (takeS S 8 (takeS S 8 (takeS S 8 (takeS S 8 τ)))) = y5 at *
  generalize takeS S 1 (takeS S 8 (takeS S 8 (takeS S 8 (takeS S 8 τ)))) = s5 at *
  generalize numV S 8 (takeS S 8 (takeS S 8 (takeS S 8 τ))) = y4 at *
  generalize takeS S 8 (takeS S 8 (takeS S 8 (takeS S 8 τ))) = s4 at *
  generalize numV S 8 (takeS S 8 (takeS S 8 τ)) = y3 at *
  generalize takeS S 8 (takeS S 8 (takeS S 8 τ)) = s3 at *
  generalize numV S 8 (takeS S 8 τ) = y2 at *
  generalize takeS S 8 (takeS S 8 τ) = s2 at *
  generalize numV S 8 τ = y1 at *
  generalize takeS S 8 τ = s1 at *
  have hw5 : IntKind.u8.wrap y5 = y5 := by rw [IntKind.wrap_u8]; omega
  clear hr5
  clear j0
  go_enter Tryd.func40, Tryd.ntmps40
  go_upto_region 1 with fail
  have Xx := Box.new w #[.bool false, .int .u64 0, .int .u64 0, .int .u64 0, .int .u64 0, .int .u8 0, .int .i64 0] 88
  have nkx : w.heap.size ≠ kr := by have := h.out.lt; omega
  have lx : w.heap.size ≤ w.heap.size := hg.out.size
  replace h : Hid (DIn (w.alloc (.cells #[.bool false, .int .u64 0, .int .u64 0, .int .u64 0, .int .u64 0, .int .u8 0, .int .i64 0] 88)) kr S σ) := Hid.mk (h.out.alloc _)
  replace hg := Hid.mk (hg.out.trans (grown_of ((Gr.refl w).alloc (.cells #[.bool false, .int .u64 0, .int .u64 0, .int .u64 0, .int .u64 0, .int .u8 0, .int .i64 0] 88)).below (some kr)))
  generalize w.alloc (.cells #[.bool false, .int .u64 0, .int .u64 0, .int .u64 0, .int .u64 0, .int .u8 0, .int .i64 0] 88) = W1 at *
  replace Xx := Hid.mk Xx
  replace nkx := Hid.mk nkx
  replace lx := Hid.mk lx
  have ⟨zh, ph, fh⟩ := h.out.at
  go_wp2_with fail
  clear zh ph fh
  refine (c0 _ h.out).mono ?_
  rintro x W2 ⟨rfl, h1, hg2⟩
  replace Xx := Hid.mk (Xx.out.kept hg2 nkx.out)
  replace hg := Hid.mk (hg.out.trans hg2)
  replace h := Hid.mk h1
  clear hg2 h1 c0
  go_upto_region 4 with fail
  have Xt := Box.new W2 #[.bool false, .int .u64 0, .int .u64 0, .int .u64 0, .int .u64 0, .int .u8 0, .int .i64 0] 88
  have nkt : W2.heap.size ≠ kr := by have := h.out.lt; omega
  have lt : w.heap.size ≤ W2.heap.size := hg.out.size
  have nnxt : w.heap.size ≠ W2.heap.size := by have := Xx.out.lt; omega
  replace Xx := Hid.mk (Xx.out.alloc (.cells #[.bool false, .int .u64 0, .int .u64 0, .int .u64 0, .int .u64 0, .int .u8 0, .int .i64 0] 88))
  replace h : Hid (DIn (W2.alloc (.cells #[.bool false, .int .u64 0, .int .u64 0, .int .u64 0, .int .u64 0, .int .u8 0, .int .i64 0] 88)) kr S σ1) := Hid.mk (h.out.alloc _)
  replace hg := Hid.mk (hg.out.trans (grown_of ((Gr.refl W2).alloc (.cells #[.bool false, .int .u64 0, .int .u64 0, .int .u64 0, .int .u64 0, .int .u8 0, .int .i64 0] 88)).below (some kr)))
  generalize W2.alloc (.cells #[.bool false, .int .u64 0, .int .u64 0, .int .u64 0, .int .u64 0, .int .u8 0, .int .i64 0] 88) = W3 at *
  generalize W2.heap.size = kt at *
  replace Xt := Hid.mk Xt
  replace nkt := Hid.mk nkt
  replace lt := Hid.mk lt
  replace nnxt := Hid.mk nnxt
  have ⟨zt, pt, ft⟩ := Xt.out.at
  have ⟨zx, px, fx⟩ := Xx.out.at
  go_wp2_with fail
  clear zt pt ft zx px fx
  refine (hF _ h.out).mono ?_
  rintro x W4 ⟨rfl, h1, hg2⟩
  replace Xx := Hid.mk (Xx.out.kept hg2 nkx.out)
  replace Xt := Hid.mk (Xt.out.kept hg2 nkt.out)
  replace hg := Hid.mk (hg.out.trans hg2)
  replace h := Hid.mk h1
  clear hg2 h1 hF
  have ⟨zt, pt, ft⟩ := Xt.out.at
  go_wp2_with fail
  clear zt pt ft
  replace Xx : Hid (Box (W4.setCell ⟨kt, 0, none⟩ (.bool true)) w.heap.size #[.bool false, .int .u64 0, .int .u64 0, .int .u64 0, .int .u64 0, .int .u8 0, .int .i64 0] 88) := Hid.mk (Box.setRow_other (cs := [.bool true]) (j := 0) Xx.out nnxt.out.symm)
  replace Xt : Hid (Box (W4.setCell ⟨kt, 0, none⟩ (.bool true)) kt #[.bool true, .int .u64 0, .int .u64 0, .int .u64 0, .int .u64 0, .int .u8 0, .int .i64 0] 88) := Hid.mk (by have q := Xt.out.set 0 (.bool true); simpa using q)
  replace h : Hid (DIn (W4.setCell ⟨kt, 0, none⟩ (.bool true)) kr S τ) := Hid.mk (Box.setRow_other (cs := [.bool true]) (j := 0) h.out nkt.out)
  replace hg : Hid (w.grownBy (W4.setCell ⟨kt, 0, none⟩ (.bool true)) (some kr)) := Hid.mk (grown_row [.bool true] (j := 0) hg.out lt.out)
  generalize (W4.setCell ⟨kt, 0, none⟩ (.bool true)) = W5 at *
  refine (c1 _ h.out).mono ?_
  rintro x W6 ⟨rfl, h1, hg2⟩
  replace Xx := Hid.mk (Xx.out.kept hg2 nkx.out)
  replace Xt := Hid.mk (Xt.out.kept hg2 nkt.out)
  replace hg := Hid.mk (hg.out.trans hg2)
  replace h := Hid.mk h1
  clear hg2 h1 c1
  have ⟨zt, pt, ft⟩ := Xt.out.at
  go_wp2_with fail
  clear zt pt ft
  replace Xx : Hid (Box (W6.setCell ⟨kt, 1, none⟩ (.int .u64 y1)) w.heap.size #[.bool false, .int .u64 0, .int .u64 0, .int .u64 0, .int .u64 0, .int .u8 0, .int .i64 0] 88) := Hid.mk (Box.setRow_other (cs := [.int .u64 y1]) (j := 1) Xx.out nnxt.out.symm)
  replace Xt : Hid (Box (W6.setCell ⟨kt, 1, none⟩ (.int .u64 y1)) kt #[.bool true, .int .u64 y1, .int .u64 0, .int .u64 0, .int .u64 0, .int .u8 0, .int .i64 0] 88) := Hid.mk (by have q := Xt.out.set 1 (.int .u64 y1); simpa using q)
  replace h : Hid (DIn (W6.setCell ⟨kt, 1, none⟩ (.int .u64 y1)) kr S s1) := Hid.mk (Box.setRow_other (cs := [.int .u64 y1]) (j := 1) h.out nkt.out)
  replace hg : Hid (w.grownBy (W6.setCell ⟨kt, 1, none⟩ (.int .u64 y1)) (some kr)) := Hid.mk (grown_row [.int .u64 y1] (j := 1) hg.out lt.out)
  generalize (W6.setCell ⟨kt, 1, none⟩ (.int .u64 y1)) = W7 at *
  refine (c2 _ h.out).mono ?_
  rintro x W8 ⟨rfl, h1, hg2⟩
  replace Xx := Hid.mk (Xx.out.kept hg2 nkx.out)
  replace Xt := Hid.mk (Xt.out.kept hg2 nkt.out)
  replace hg := Hid.mk (hg.out.trans hg2)
  replace h := Hid.mk h1
  clear hg2 h1 c2
  have ⟨zt, pt, ft⟩ := Xt.out.at
  go_wp2_with fail
  clear zt pt ft
  replace Xx : Hid (Box (W8.setCell ⟨kt, 2, none⟩ (.int .u64 y2)) w.heap.size #[.bool false, .int .u64 0, .int .u64 0, .int .u64 0, .int .u64 0, .int .u8 0, .int .i64 0] 88) := Hid.mk (Box.setRow_other (cs := [.int .u64 y2]) (j := 2) Xx.out nnxt.out.symm)
  replace Xt : Hid (Box (W8.setCell ⟨kt, 2, none⟩ (.int .u64 y2)) kt #[.bool true, .int .u64 y1, .int .u64 y2, .int .u64 0, .int .u64 0, .int .u8 0, .int .i64 0] 88) := Hid.mk (by have q := Xt.out.set 2 (.int .u64 y2); simpa using q)
  replace h : Hid (DIn (W8.setCell ⟨kt, 2, none⟩ (.int .u64 y2)) kr S s2) := Hid.mk (Box.setRow_other (cs := [.int .u64 y2]) (j := 2) h.out nkt.out)
  replace hg : Hid (w.grownBy (W8.setCell ⟨kt, 2, none⟩ (.int .u64 y2)) (some kr)) := Hid.mk (grown_row [.int .u64 y2] (j := 2) hg.out lt.out)
  generalize (W8.setCell ⟨kt, 2, none⟩ (.int .u64 y2)) = W9 at *
  refine (c3 _ h.out).mono ?_
  rintro x W10 ⟨rfl, h1, hg2⟩
  replace Xx := Hid.mk (Xx.out.kept hg2 nkx.out)
  replace Xt := Hid.mk (Xt.out.kept hg2 nkt.out)
  replace hg := Hid.mk (hg.out.trans hg2)
  replace h := Hid.mk h1
  clear hg2 h1 c3
  have ⟨zt, pt, ft⟩ := Xt.out.at
  go_wp2_with fail
  clear zt pt ft
  replace Xx : Hid (Box (W10.setCell ⟨kt, 3, none⟩ (.int .u64 y3)) w.heap.size #[.bool false, .int .u64 0, .int .u64 0, .int .u64 0, .int .u64 0, .int .u8 0, .int .i64 0] 88) := Hid.mk (Box.setRow_other (cs := [.int .u64 y3]) (j := 3) Xx.out nnxt.out.symm)
  replace Xt : Hid (Box (W10.setCell ⟨kt, 3, none⟩ (.int .u64 y3)) kt #[.bool true, .int .u64 y1, .int .u64 y2, .int .u64 y3, .int .u64 0, .int .u8 0, .int .i64 0] 88) := Hid.mk (by have q := Xt.out.set 3 (.int .u64 y3); simpa using q)
  replace h : Hid (DIn (W10.setCell ⟨kt, 3, none⟩ (.int .u64 y3)) kr S s3) := Hid.mk (Box.setRow_other (cs := [.int .u64 y3]) (j := 3) h.out nkt.out)
  replace hg : Hid (w.grownBy (W10.setCell ⟨kt, 3, none⟩ (.int .u64 y3)) (some kr)) := Hid.mk (grown_row [.int .u64 y3] (j := 3) hg.out lt.out)
  generalize (W10.setCell ⟨kt, 3, none⟩ (.int .u64 y3)) = W11 at *
  refine (c4 _ h.out).mono ?_
  rintro x W12 ⟨rfl, h1, hg2⟩
  replace Xx := Hid.mk (Xx.out.kept hg2 nkx.out)
  replace Xt := Hid.mk (Xt.out.kept hg2 nkt.out)
  replace hg := Hid.mk (hg.out.trans hg2)
  replace h := Hid.mk h1
  clear hg2 h1 c4
  have ⟨zt, pt, ft⟩ := Xt.out.at
  go_wp2_with fail
  clear zt pt ft
  replace Xx : Hid (Box (W12.setCell ⟨kt, 4, none⟩ (.int .u64 y4)) w.heap.size #[.bool false, .int .u64 0, .int .u64 0, .int .u64 0, .int .u64 0, .int .u8 0, .int .i64 0] 88) := Hid.mk (Box.setRow_other (cs := [.int .u64 y4]) (j := 4) Xx.out nnxt.out.symm)
  replace Xt : Hid (Box (W12.setCell ⟨kt, 4, none⟩ (.int .u64 y4)) kt #[.bool true, .int .u64 y1, .int .u64 y2, .int .u64 y3, .int .u64 y4, .int .u8 0, .int .i64 0] 88) := Hid.mk (by have q := Xt.out.set 4 (.int .u64 y4); simpa using q)
  replace h : Hid (DIn (W12.setCell ⟨kt, 4, none⟩ (.int .u64 y4)) kr S s4) := Hid.mk (Box.setRow_other (cs := [.int .u64 y4]) (j := 4) h.out nkt.out)
  replace hg : Hid (w.grownBy (W12.setCell ⟨kt, 4, none⟩ (.int .u64 y4)) (some kr)) := Hid.mk (grown_row [.int .u64 y4] (j := 4) hg.out lt.out)
  generalize (W12.setCell ⟨kt, 4, none⟩ (.int .u64 y4)) = W13 at *
  refine (c5 _ h.out).mono ?_
  rintro x W14 ⟨rfl, h1, hg2⟩
  replace Xx := Hid.mk (Xx.out.kept hg2 nkx.out)
  replace Xt := Hid.mk (Xt.out.kept hg2 nkt.out)
  replace hg := Hid.mk (hg.out.trans hg2)
  replace h := Hid.mk h1
  clear hg2 h1 c5
  have ⟨zt, pt, ft⟩ := Xt.out.at
  go_wp2_with fail
  clear zt pt ft
  replace Xx : Hid (Box (W14.setCell ⟨kt, 5, none⟩ (.int .u8 y5)) w.heap.size #[.bool false, .int .u64 0, .int .u64 0, .int .u64 0, .int .u64 0, .int .u8 0, .int .i64 0] 88) := Hid.mk (Box.setRow_other (cs := [.int .u8 y5]) (j := 5) Xx.out nnxt.out.symm)
  replace Xt : Hid (Box (W14.setCell ⟨kt, 5, none⟩ (.int .u8 y5)) kt #[.bool true, .int .u64 y1, .int .u64 y2, .int .u64 y3, .int .u64 y4, .int .u8 y5, .int .i64 0] 88) := Hid.mk (by have q := Xt.out.set 5 (.int .u8 y5); simpa using q)
  replace h : Hid (DIn (W14.setCell ⟨kt, 5, none⟩ (.int .u8 y5)) kr S s5) := Hid.mk (Box.setRow_other (cs := [.int .u8 y5]) (j := 5) h.out nkt.out)
  replace hg : Hid (w.grownBy (W14.setCell ⟨kt, 5, none⟩ (.int .u8 y5)) (some kr)) := Hid.mk (grown_row [.int .u8 y5] (j := 5) hg.out lt.out)
  generalize (W14.setCell ⟨kt, 5, none⟩ (.int .u8 y5)) = W15 at *
  refine (c6 _ h.out).mono ?_
  rintro x W16 ⟨rfl, h1, hg2⟩
  replace Xx := Hid.mk (Xx.out.kept hg2 nkx.out)
  replace Xt := Hid.mk (Xt.out.kept hg2 nkt.out)
  replace hg := Hid.mk (hg.out.trans hg2)
  replace h := Hid.mk h1
  clear hg2 h1 c6
  have ⟨zt, pt, ft⟩ := Xt.out.at
  go_upto_region 15 with fail
  clear zt pt ft
  replace Xx : Hid (Box (W16.setCell ⟨kt, 6, none⟩ (.int .i64 y6)) w.heap.size #[.bool false, .int .u64 0, .int .u64 0, .int .u64 0, .int .u64 0, .int .u8 0, .int .i64 0] 88) := Hid.mk (Box.setRow_other (cs := [.int .i64 y6]) (j := 6) Xx.out nnxt.out.symm)
  replace Xt : Hid (Box (W16.setCell ⟨kt, 6, none⟩ (.int .i64 y6)) kt #[.bool true, .int .u64 y1, .int .u64 y2, .int .u64 y3, .int .u64 y4, .int .u8 y5, .int .i64 y6] 88) := Hid.mk (by have q := Xt.out.set 6 (.int .i64 y6); simpa using q)
  replace h : Hid (DIn (W16.setCell ⟨kt, 6, none⟩ (.int .i64 y6)) kr S s6) := Hid.mk (Box.setRow_other (cs := [.int .i64 y6]) (j := 6) h.out nkt.out)
  replace hg : Hid (w.grownBy (W16.setCell ⟨kt, 6, none⟩ (.int .i64 y6)) (some kr)) := Hid.mk (grown_row [.int .i64 y6] (j := 6) hg.out lt.out)
  generalize (W16.setCell ⟨kt, 6, none⟩ (.int .i64 y6)) = W17 at *
  have ⟨zt, pt, ft⟩ := Xt.out.at
  have ⟨zx, px, fx⟩ := Xx.out.at
  go_wp2_with fail
  have b4 : Box (((((((W17.setCell ⟨w.heap.size, 0, none⟩ (.bool true)).setCell ⟨w.heap.size, 1, none⟩ (.int .u64 y1)).setCell ⟨w.heap.size, 2, none⟩ (.int .u64 y2)).setCell ⟨w.heap.size, 3, none⟩ (.int .u64 y3)).setCell ⟨w.heap.size, 4, none⟩ (.int .u64 y4)).setCell ⟨w.heap.size, 5, none⟩ (.int .u8 y5)).setCell ⟨w.heap.size, 6, none⟩ (.int .i64 y6)) w.heap.size #[.bool true, .int .u64 y1, .int .u64 y2, .int .u64 y3, .int .u64 y4, .int .u8 y5, .int .i64 y6] 88 := Box.setRow Xx.out [.bool true, .int .u64 y1, .int .u64 y2, .int .u64 y3, .int .u64 y4, .int .u8 y5, .int .i64 y6] rfl
  have h4 : DIn (((((((W17.setCell ⟨w.heap.size, 0, none⟩ (.bool true)).setCell ⟨w.heap.size, 1, none⟩ (.int .u64 y1)).setCell ⟨w.heap.size, 2, none⟩ (.int .u64 y2)).setCell ⟨w.heap.size, 3, none⟩ (.int .u64 y3)).setCell ⟨w.heap.size, 4, none⟩ (.int .u64 y4)).setCell ⟨w.heap.size, 5, none⟩ (.int .u8 y5)).setCell ⟨w.heap.size, 6, none⟩ (.int .i64 y6)) kr S s6 := Box.setRow_other (cs := [.bool true, .int .u64 y1, .int .u64 y2, .int .u64 y3, .int .u64 y4, .int .u8 y5, .int .i64 y6]) (j := 0) h.out nkx.out
  have hg4 : w.grownBy (((((((W17.setCell ⟨w.heap.size, 0, none⟩ (.bool true)).setCell ⟨w.heap.size, 1, none⟩ (.int .u64 y1)).setCell ⟨w.heap.size, 2, none⟩ (.int .u64 y2)).setCell ⟨w.heap.size, 3, none⟩ (.int .u64 y3)).setCell ⟨w.heap.size, 4, none⟩ (.int .u64 y4)).setCell ⟨w.heap.size, 5, none⟩ (.int .u8 y5)).setCell ⟨w.heap.size, 6, none⟩ (.int .i64 y6)) (some kr) := grown_row [.bool true, .int .u64 y1, .int .u64 y2, .int .u64 y3, .int .u64 y4, .int .u8 y5, .int .i64 y6] (j := 0) hg.out lx.out
  have ⟨_, q4, _⟩ := b4.at
  clear b4 h hg Xx Xt 
  generalize (((((((W17.setCell ⟨w.heap.size, 0, none⟩ (.bool true)).setCell ⟨w.heap.size, 1, none⟩ (.int .u64 y1)).setCell ⟨w.heap.size, 2, none⟩ (.int .u64 y2)).setCell ⟨w.heap.size, 3, none⟩ (.int .u64 y3)).setCell ⟨w.heap.size, 4, none⟩ (.int .u64 y4)).setCell ⟨w.heap.size, 5, none⟩ (.int .u8 y5)).setCell ⟨w.heap.size, 6, none⟩ (.int .i64 y6)) = W4 at *
  simp [bodyPost, results, Tryd.results40, go_sem, q4]
  refine ⟨⟨true, y1, y2, y3, y4, y5, y6⟩, ⟨rfl, rfl, rfl, rfl, rfl, rfl, rfl⟩, ?_, hg4, fun q => absurd q hbad⟩
  rw [← hst, hE.out]; exact h4
end Go.Proofs.YtdmkedpnkejpbaaDoor


/-
  Stage 4, image: the document's reader: lists of types.
-/
namespace Go.Proofs.YtdmkedpnkejpbaaDoor
open Go.RowKit

/-- A loop that reads: what is left to be read comes to R; behind an error R's state is at hand. -/
def Lp {α : Type} (f : RS → α × RS) (R : List α × RS) (m : Nat) (τ : RS) (L : List α) : Prop := (τ.e = 0 → listF f m τ L = R) ∧ (τ.e ≠ 0 → R.2 = τ)
theorem Lp.start {α : Type} (f : RS → α × RS) (N : Nat) (σ : RS) (h : σ.e ≠ 0 → N = 0) : Lp f (listF f N σ []) N σ [] := ⟨fun _ => rfl, fun q => by rw [h q, listF]⟩
theorem Lp.step {α : Type} {f : RS → α × RS} {R : List α × RS} {m : Nat} {τ : RS} {L : List α} (h : Lp f R m τ L) (hm : 0 < m) (he : τ.e = 0) (x : α) (hx : (f τ).2.e = 0 → x = (f τ).1) : Lp f R (m - 1) (f τ).2 (L ++ [x]) := by
  have h1 := h.1 he
  obtain ⟨q, rfl⟩ : ∃ q, m = q + 1 := ⟨m - 1, by omega⟩
  rw [listF] at h1
  refine ⟨fun q1 => ?_, fun q1 => ?_⟩
  · rw [if_pos q1] at h1
    rw [hx q1]
    exact h1
  · rw [if_neg q1] at h1
    rw [← h1]
theorem Lp.done {α : Type} {f : RS → α × RS} {R : List α × RS} {m : Nat} {τ : RS} {L : List α} (h : Lp f R m τ L) (hm : m = 0 ∨ τ.e ≠ 0) : R.2 = τ ∧ (R.2.e = 0 → L = R.1) := by
  by_cases he : τ.e = 0
  · have h1 := h.1 he
    have hm : m = 0 := hm.elim (fun q => q) (fun q => absurd he q)
    rw [hm, listF] at h1
    rw [← h1]
    exact ⟨rfl, fun _ => rfl⟩
  · have h1 := h.2 he
    exact ⟨h1, fun q => absurd (by rw [← h1]; exact q) he⟩
theorem dec_w {m : Nat} (h : 0 < m) (h2 : m ≤ 1000000) : IntKind.i64.wrap ((m : Int) - 1) = ((m - 1 : Nat) : Int) := by rw [IntKind.wrap_i64]; omega
theorem inc_w {m : Nat} (h2 : m ≤ 1000000) : IntKind.i64.wrap ((m : Int) + 1) = ((m + 1 : Nat) : Int) := by rw [IntKind.wrap_i64]; omega
set_option maxRecDepth 10000 in
set_option maxHeartbeats 4000000 in
theorem dtypes_any (S : List UInt8) (kr : Nat) (σ : RS) (w : World) (h : DIn w kr S σ) (hi : σ.In S) (hS : S.length ≤ 1000000) :
    Calls Tryd.prog 17 #[.pointer (some ⟨kr, 0, none⟩)] w fun x w' => ∃ v L, x = .returned v ∧ w'.ownsRow w.heap.size 88 7 v L.length (L.flatMap PTyp.vals) ∧ DIn w' kr S (kindsP S σ).2 ∧ w.grownBy w' (some kr) ∧ ((kindsP S σ).2.e = 0 → L = (kindsP S σ).1) := by
  have hS2 : S.length ≤ 140737488355328 := by omega
  have c0 := dcount_any S kr 1 σ w h hi hS2 (by omega)
  have hi0 := takeS_in (S := S) 1 hi
  have hc := fun σ W h1 h2 => dtyped_any S kr σ W h1 h2 hS
  have hst := Lp.start (kindP S) (numV S 1 σ).toNat (takeS S 1 σ) (fun q => by rw [num_bad S 1 σ q]; rfl)
  have hN := num1 S σ
  have hNN := toNat_num S 1 σ
  rw [← hNN] at c0 hN
  have hres : listF (kindP S) (numV S 1 σ).toNat (takeS S 1 σ) [] = kindsP S σ := rfl
  rw [hres] at hst
  clear hres hNN
  generalize kindsP S σ = R at *
  generalize (numV S 1 σ).toNat = n at *
  generalize takeS S 1 σ = σ1 at *
  have hn : n ≤ 255 := by omega
  clear hN
  go_enter Tryd.func17, Tryd.ntmps17
  go_wp2_with fail
  refine c0.mono ?_
  rintro x w0 ⟨rfl, h0, hg0⟩
  clear h hi c0
  go_wp2_with fail
  go_loopw [3, 4] (fun l i wr => ∃ (m : Nat) (L : List PTyp) (τ : RS), i = .int .i64 m ∧ m ≤ n ∧ Hid (wr.ownsRow w.heap.size 88 7 l L.length (L.flatMap PTyp.vals) ∧ L.length + m = n ∧ DIn wr kr S τ ∧ τ.In S ∧ w.grownBy wr (some kr) ∧ Lp (kindP S) R m τ L)) (fun _ i _ => (intOf i).toNat)
  case atStart => exact ⟨n, [], σ1, rfl, by omega, ⟨⟨rfl, .inl ⟨rfl, rfl⟩⟩, by simp, h0, hi0, hg0, hst⟩⟩
  case round =>
    clear h0 hi0 hg0 hst
    obtain ⟨m, L, τ, rfl, hm, ⟨hO, hL, h, hi, hg, hF⟩⟩ := hrel
    obtain ⟨la, lc, rfl⟩ := own_slice hO
    by_cases hm0 : m = 0
    · subst hm0
      obtain ⟨r1, r2⟩ := hF.done (.inl rfl)
      replace hO := Hid.mk hO
      replace h := Hid.mk h
      replace hg := Hid.mk hg
      replace r1 := Hid.mk r1
      replace r2 := Hid.mk r2
      clear hc hL hF
      go_wp2_with fail
      go_ret
      exact ⟨_, L, rfl, hO.out, by rw [r1.out]; exact h.out, hg.out, r2.out⟩
    have jl : (0 : Int) < m := by omega
    have ⟨zh, ph, fh⟩ := h.at
    by_cases he : τ.e = 0
    · have he' : (τ.e == 0) = true := by simpa using he
      have hdw := dec_w (m := m) (by omega) (by omega)
      have c1 := hc τ wr h hi
      have hi1 := kindP_in hi
      have hF1 := fun x q => hF.step (by omega) he x q
      have hO2 : ∀ W, wr.grownBy W (some kr) → W.ownsRow w.heap.size 88 7 (.slice la L.length lc) L.length (L.flatMap PTyp.vals) := fun W hW => own_kept hO hW (own_ne hO h (by decide))
      clear hO hF
      replace he := Hid.mk he
      generalize (kindP S τ).1 = x0 at *
      generalize (kindP S τ).2 = τ' at *
      replace hF1 := Hid.mk hF1
      replace h := Hid.mk h
      replace hg := Hid.mk hg
      replace hO2 := Hid.mk hO2
      replace hL := Hid.mk hL
      go_wp2_with fail
      refine c1.mono ?_
      rintro z w1 ⟨x, rfl, h1, hg1, hx⟩
      have hO := hO2.out w1 hg1
      replace hF1 := Hid.mk (hF1.out x hx)
      replace hg := Hid.mk (hg.out.trans hg1)
      clear hg1 h hO2 c1 hc hx zh ph fh
      have hG : Gr w1 ((w1.alloc (.cells #[.bool x.cap, .int .u64 x.b, .int .u64 x.e, .int .u64 x.lo, .int .u64 x.hi, .int .u8 x.p, .int .i64 x.s] 88)).alloc (.cells #[.bool x.cap, .int .u64 x.b, .int .u64 x.e, .int .u64 x.lo, .int .u64 x.hi, .int .u8 x.p, .int .i64 x.s] 88)) := ((Gr.refl w1).alloc _).alloc _
      have hA : At ((w1.alloc (.cells #[.bool x.cap, .int .u64 x.b, .int .u64 x.e, .int .u64 x.lo, .int .u64 x.hi, .int .u8 x.p, .int .i64 x.s] 88)).alloc (.cells #[.bool x.cap, .int .u64 x.b, .int .u64 x.e, .int .u64 x.lo, .int .u64 x.hi, .int .u8 x.p, .int .i64 x.s] 88)) (w1.heap.size + 1) [Value.bool x.cap, .int .u64 x.b, .int .u64 x.e, .int .u64 x.lo, .int .u64 x.hi, .int .u8 x.p, .int .i64 x.s].toArray := At.next _ _ _ _
      replace hO := Hid.mk (own_below hO hG.below)
      replace h1 := Hid.mk (h1.gr hG)
      replace hg := Hid.mk (hg.out.trans (grown_of hG.below _))
      have hs := Hid.mk hg.out.size
      replace hA := Hid.mk hA
      clear hG
      go_wp2_with (at_builtin; refine wpList_append_el rfl (.tmp 21) (.tmp 23) 59 88 _ 7 56 rfl Tryd.underlying59 infoType rfl (by decide) (by decide) w.heap.size (.slice la L.length lc) L.length (L.flatMap PTyp.vals) [Value.bool x.cap, .int .u64 x.b, .int .u64 x.e, .int .u64 x.lo, .int .u64 x.hi, .int .u8 x.p, .int .i64 x.s] rfl hO.out (w1.heap.size + 1) rfl hA.out rfl (by simp [Value.oneCell']) (by have := hL.out; omega) hs.out ?_)
      intro g c w5 hrow hgr
      have hk5 := own_ne hO.out h1.out (by decide)
      replace h1 := Hid.mk (Box.keptRow h1.out hgr hk5)
      replace hg := Hid.mk (hg.out.andThen hgr (fun i hq => .inl (own_block hO.out i hq).1))
      replace hrow := Hid.mk hrow
      clear hgr hO hk5
      go_wp2_with fail
      go_roundw
      case rel => exact ⟨m - 1, L ++ [x], τ', rfl, by omega, ⟨by rw [List.length_append, List.flatMap_append]; exact hrow.out, by have := hL.out; rw [List.length_append]; simp only [List.length_cons, List.length_nil]; omega, h1.out, hi1, hg.out, hF1.out⟩⟩
      case measure => simp [intOf]; omega
    · have he' : (τ.e == 0) = false := by simpa using he
      obtain ⟨r1, r2⟩ := hF.done (.inr he)
      replace hO := Hid.mk hO
      replace h := Hid.mk h
      replace hg := Hid.mk hg
      replace r1 := Hid.mk r1
      replace r2 := Hid.mk r2
      replace he := Hid.mk he
      clear hc hL hF
      go_wp2_with fail
      go_ret
      exact ⟨_, L, rfl, hO.out, by rw [r1.out]; exact h.out, hg.out, r2.out⟩
end Go.Proofs.YtdmkedpnkejpbaaDoor
