import Derived.Test.YtdmkedpnkejpbaaDoorMRdD
import Derived.Test.YtdmkedpnkejpbaaDoorMClone
/-
  Stage 4, image: the reader's region, comp and gate.
-/
namespace Go.Proofs.YtdmkedpnkejpbaaDoor
open Go.RowKit

theorem toNat_num (S : List UInt8) (n : Nat) (σ : RS) : (((numV S n σ).toNat : Nat) : Int) = numV S n σ := Int.toNat_of_nonneg (numV_range S n σ).1
set_option maxRecDepth 10000 in
set_option maxHeartbeats 4000000 in
theorem rregion_any (S : List UInt8) (kr : Nat) (σ : RS) (w : World) (h : RIn w kr S σ) (hi : σ.In S) (hS : S.length ≤ 1000000) :
    Calls Tryd.prog 29 #[.pointer (some ⟨kr, 0, none⟩)] w fun x w' => ∃ sa sc, x = .returned (.agg #[.int .u64 (regP S σ).1.b, .int .u64 (regP S σ).1.n, .string (str (regP S σ).1.data), .slice sa (regP S σ).1.slots.length sc]) ∧ w'.ownsRow w.heap.size 91 8 (.slice sa (regP S σ).1.slots.length sc) (regP S σ).1.slots.length ((regP S σ).1.slots.flatMap PSlot.vals) ∧ RIn w' kr S (regP S σ).2 ∧ w.grownBy w' (some kr) := by
  have hS2 : S.length ≤ 140737488355328 := by omega
  have hne : w.heap.size ≠ kr := by have := h.lt; omega
  have c1 := fun W h1 => number_any S kr 4 σ W h1 hi hS2 (by omega)
  have i1 := takeS_in (S := S) 4 hi
  have c2 := fun W h1 => number_any S kr 4 (takeS S 4 σ) W h1 i1 hS2 (by omega)
  have i2 := takeS_in (S := S) 4 i1
  have c3 := fun W h1 => count_any S kr 2 (takeS S 4 (takeS S 4 σ)) W h1 i2 hS2 (by omega)
  have i3 := takeS_in (S := S) 2 i2
  have hk0 := num2 S (takeS S 4 (takeS S 4 σ))
  have hd0 := num2 S (regS S σ)
  have hkk := toNat_num S 2 (takeS S 4 (takeS S 4 σ))
  have hdd := toNat_num S 2 (regS S σ)
  have c4 := fun W h1 => listSlot_any S kr (regK S σ) (regS S σ) W h1 i3 hS2 (by unfold regK; omega)
  have c5 := fun W h1 => count_any S kr 2 (regS S σ) W h1 i3 hS2 (by omega)
  have i5 := takeS_in (S := S) 2 i3
  have c6 := fun W h1 => take_any S kr (regD S σ) (takeS S 2 (regS S σ)) W h1 i5 hS2 (by unfold regD; omega)
  have c7 := fun W => Clone_any (takeV S (regD S σ) (takeS S 2 (regS S σ))) W (by have := takeV_len S (regD S σ) (takeS S 2 (regS S σ)); unfold regD at *; omega)
  have hst : takeS S 2 (takeS S 4 (takeS S 4 σ)) = regS S σ := rfl
  rw [hst] at c3
  have hkd : (numV S 2 (takeS S 4 (takeS S 4 σ))).toNat = regK S σ := rfl
  have hdn : (numV S 2 (regS S σ)).toNat = regD S σ := rfl
  rw [hkd] at hkk
  rw [hdn] at hdd
  rw [← hkk] at c3 hk0
  rw [← hdd] at c5 hd0
  unfold regP
  clear hst hkd hdn hkk hdd i1 i2 i3 i5
  generalize regK S σ = k at *
  generalize regD S σ = d at *
  generalize takeV S d (takeS S 2 (regS S σ)) = D at *
  generalize takeS S d (takeS S 2 (regS S σ)) = σ6 at *
  generalize takeS S 2 (regS S σ) = σ5 at *
  generalize listF (slotP S) k (regS S σ) [] = lf at *
  generalize regS S σ = σ3 at *
  generalize numV S 4 (takeS S 4 σ) = y2 at *
  generalize takeS S 4 (takeS S 4 σ) = σ2 at *
  generalize numV S 4 σ = y1 at *
  generalize takeS S 4 σ = σ1 at *
  obtain ⟨L, σ4⟩ := lf
  simp only at c4
  by_cases hk : 0 < k
  · rw [if_pos hk]
    simp only
    have hk' : (0 : Int) < k := by omega
    go_enter Tryd.func29, Tryd.ntmps29
    go_wp2_with fail
    have X := Box.new w #[.int .u64 0, .int .u64 0, .string ⟨#[]⟩, .slice none 0 0] 52
    have hg := grown_of ((Gr.refl w).alloc (.cells #[.int .u64 0, .int .u64 0, .string ⟨#[]⟩, .slice none 0 0] 52)).below (some kr)
    replace h : RIn (w.alloc (.cells #[.int .u64 0, .int .u64 0, .string ⟨#[]⟩, .slice none 0 0] 52)) kr S σ := h.alloc _
    refine (c1 _ h).mono ?_
    clear h
    rintro x w1 ⟨rfl, h, hg2⟩
    replace X := Hid.mk (X.kept hg2 hne)
    replace hg := Hid.mk (hg.trans hg2)
    replace h := Hid.mk h
    clear hg2 c1
    go_wp2_with fail
    refine (c2 _ h.out).mono ?_
    clear h
    rintro x w2 ⟨rfl, h, hg2⟩
    replace X := Hid.mk (X.out.kept hg2 hne)
    replace hg := Hid.mk (hg.out.trans hg2)
    replace h := Hid.mk h
    clear hg2 c2
    go_wp2_with fail
    have G := Box.new w2 #[.int .u64 y1, .int .u64 y2, .string ⟨#[]⟩, .slice none 0 0] 52
    have hgk : w2.heap.size ≠ kr := by have := h.out.lt; omega
    have hxg : w.heap.size < w2.heap.size := by have := X.out.lt; omega
    replace X := Hid.mk (X.out.alloc (.cells #[.int .u64 y1, .int .u64 y2, .string ⟨#[]⟩, .slice none 0 0] 52))
    replace hg := Hid.mk (hg.out.trans (grown_of ((Gr.refl w2).alloc (.cells #[.int .u64 y1, .int .u64 y2, .string ⟨#[]⟩, .slice none 0 0] 52)).below (some kr)))
    replace h : RIn (w2.alloc (.cells #[.int .u64 y1, .int .u64 y2, .string ⟨#[]⟩, .slice none 0 0] 52)) kr S σ2 := h.out.alloc _
    generalize w2.heap.size = kg at *
    refine (c3 _ h).mono ?_
    clear h
    rintro x w3 ⟨rfl, h, hg2⟩
    replace X := Hid.mk (X.out.kept hg2 hne)
    replace G := Hid.mk (Box.kept G hg2 hgk)
    replace hg := Hid.mk (hg.out.trans hg2)
    replace h := Hid.mk h
    clear hg2 c3
    go_wp2_with fail
    refine (c4 _ h.out).mono ?_
    clear h
    rintro x w4 ⟨v, rfl, hO, h, hg2⟩
    obtain ⟨sa, sc, rfl⟩ := own_slice hO
    replace X := X.out.kept hg2 hne
    replace G := G.out.kept hg2 hgk
    replace hO := Hid.mk (own_base hO hg.out.size)
    replace hg := Hid.mk (hg.out.trans hg2)
    replace h := Hid.mk h
    have ⟨z0, p0, f0⟩ := X.at
    have ⟨z1, p1, f1⟩ := G.at
    have hn1 : kg ≠ w.heap.size := by omega
    replace X := Hid.mk X
    replace G := Hid.mk G
    replace hxg := Hid.mk hxg
    clear hg2 c4
    go_wp2_with fail
    have X1 := X.out.kept (grown_set w4 kg 3 (.slice sa L.length sc)) (Ne.symm hn1)
    have h1 := h.out.kept (grown_set w4 kg 3 (.slice sa L.length sc)) (Ne.symm hgk)
    have O1 := own_setBox (o := 3) (u := .slice sa L.length sc) hO.out G.out (by decide)
    have g1 := grown_box (o := 3) (v := .slice sa L.length sc) hg.out (Nat.le_of_lt hxg.out)
    have b4 : Box ((((((w4.setCell ⟨kg, 3, none⟩ (.slice sa L.length sc))).setCell ⟨w.heap.size, 0, none⟩ (.int .u64 y1)).setCell ⟨w.heap.size, 1, none⟩ (.int .u64 y2)).setCell ⟨w.heap.size, 2, none⟩ (.string ⟨#[]⟩)).setCell ⟨w.heap.size, 3, none⟩ (.slice sa L.length sc)) w.heap.size #[.int .u64 y1, .int .u64 y2, .string ⟨#[]⟩, .slice sa L.length sc] 52 := Box.setRow X1 [.int .u64 y1, .int .u64 y2, .string ⟨#[]⟩, .slice sa L.length sc] rfl
    have h4 : RIn ((((((w4.setCell ⟨kg, 3, none⟩ (.slice sa L.length sc))).setCell ⟨w.heap.size, 0, none⟩ (.int .u64 y1)).setCell ⟨w.heap.size, 1, none⟩ (.int .u64 y2)).setCell ⟨w.heap.size, 2, none⟩ (.string ⟨#[]⟩)).setCell ⟨w.heap.size, 3, none⟩ (.slice sa L.length sc)) kr S σ4 := Box.setRow_other (cs := [.int .u64 y1, .int .u64 y2, .string ⟨#[]⟩, .slice sa L.length sc]) h1 hne
    have hg4 : w.grownBy ((((((w4.setCell ⟨kg, 3, none⟩ (.slice sa L.length sc))).setCell ⟨w.heap.size, 0, none⟩ (.int .u64 y1)).setCell ⟨w.heap.size, 1, none⟩ (.int .u64 y2)).setCell ⟨w.heap.size, 2, none⟩ (.string ⟨#[]⟩)).setCell ⟨w.heap.size, 3, none⟩ (.slice sa L.length sc)) (some kr) := grown_row [.int .u64 y1, .int .u64 y2, .string ⟨#[]⟩, .slice sa L.length sc] g1 (Nat.le_refl _)
    have O4 : World.ownsRow ((((((w4.setCell ⟨kg, 3, none⟩ (.slice sa L.length sc))).setCell ⟨w.heap.size, 0, none⟩ (.int .u64 y1)).setCell ⟨w.heap.size, 1, none⟩ (.int .u64 y2)).setCell ⟨w.heap.size, 2, none⟩ (.string ⟨#[]⟩)).setCell ⟨w.heap.size, 3, none⟩ (.slice sa L.length sc)) w.heap.size 91 8 (.slice sa L.length sc) L.length (L.flatMap PSlot.vals) := own_row [.int .u64 y1, .int .u64 y2, .string ⟨#[]⟩, .slice sa L.length sc] O1 X1 (by decide)
    have ⟨_, q4, _⟩ := b4.at
    clear z0 p0 f0 z1 p1 f1 X G hg h b4 hO X1 h1 O1 g1
    generalize (((((w4.setCell ⟨kg, 3, none⟩ (.slice sa L.length sc))).setCell ⟨w.heap.size, 0, none⟩ (.int .u64 y1)).setCell ⟨w.heap.size, 1, none⟩ (.int .u64 y2)).setCell ⟨w.heap.size, 2, none⟩ (.string ⟨#[]⟩)).setCell ⟨w.heap.size, 3, none⟩ (.slice sa L.length sc) = W4 at *
    simp [bodyPost, results, Tryd.results29, go_sem, q4]
    exact ⟨sa, sc, ⟨rfl, rfl, rfl⟩, O4, h4, hg4⟩
  · rw [if_neg hk]
    simp only
    have hk' : ¬ (0 : Int) < k := by omega
    go_enter Tryd.func29, Tryd.ntmps29
    go_wp2_with fail
    have X := Box.new w #[.int .u64 0, .int .u64 0, .string ⟨#[]⟩, .slice none 0 0] 52
    have hg := grown_of ((Gr.refl w).alloc (.cells #[.int .u64 0, .int .u64 0, .string ⟨#[]⟩, .slice none 0 0] 52)).below (some kr)
    replace h : RIn (w.alloc (.cells #[.int .u64 0, .int .u64 0, .string ⟨#[]⟩, .slice none 0 0] 52)) kr S σ := h.alloc _
    refine (c1 _ h).mono ?_
    clear h
    rintro x w1 ⟨rfl, h, hg2⟩
    replace X := Hid.mk (X.kept hg2 hne)
    replace hg := Hid.mk (hg.trans hg2)
    replace h := Hid.mk h
    clear hg2 c1
    go_wp2_with fail
    refine (c2 _ h.out).mono ?_
    clear h
    rintro x w2 ⟨rfl, h, hg2⟩
    replace X := Hid.mk (X.out.kept hg2 hne)
    replace hg := Hid.mk (hg.out.trans hg2)
    replace h := Hid.mk h
    clear hg2 c2
    go_wp2_with fail
    have G := Box.new w2 #[.int .u64 y1, .int .u64 y2, .string ⟨#[]⟩, .slice none 0 0] 52
    have hgk : w2.heap.size ≠ kr := by have := h.out.lt; omega
    have hxg : w.heap.size < w2.heap.size := by have := X.out.lt; omega
    replace X := Hid.mk (X.out.alloc (.cells #[.int .u64 y1, .int .u64 y2, .string ⟨#[]⟩, .slice none 0 0] 52))
    replace hg := Hid.mk (hg.out.trans (grown_of ((Gr.refl w2).alloc (.cells #[.int .u64 y1, .int .u64 y2, .string ⟨#[]⟩, .slice none 0 0] 52)).below (some kr)))
    replace h : RIn (w2.alloc (.cells #[.int .u64 y1, .int .u64 y2, .string ⟨#[]⟩, .slice none 0 0] 52)) kr S σ2 := h.out.alloc _
    generalize w2.heap.size = kg at *
    refine (c3 _ h).mono ?_
    clear h
    rintro x w3 ⟨rfl, h, hg2⟩
    replace X := Hid.mk (X.out.kept hg2 hne)
    replace G := Hid.mk (Box.kept G hg2 hgk)
    replace hg := Hid.mk (hg.out.trans hg2)
    replace h := Hid.mk h
    clear hg2 c3
    go_wp2_with fail
    refine (c5 _ h.out).mono ?_
    clear h
    rintro x w4 ⟨rfl, h, hg2⟩
    replace X := Hid.mk (X.out.kept hg2 hne)
    replace G := Hid.mk (G.out.kept hg2 hgk)
    replace hg := Hid.mk (hg.out.trans hg2)
    replace h := Hid.mk h
    clear hg2 c5
    go_wp2_with fail
    refine (c6 _ h.out).mono ?_
    clear h
    rintro x w5 ⟨rfl, h, hg2⟩
    replace X := Hid.mk (X.out.kept hg2 hne)
    replace G := Hid.mk (G.out.kept hg2 hgk)
    replace hg := Hid.mk (hg.out.trans hg2)
    replace h := Hid.mk h
    clear hg2 c6
    go_wp2_with fail
    refine (c7 _).mono ?_
    rintro x w6 ⟨rfl, hb⟩
    replace X := X.out.below hb X.out.lt
    replace G := G.out.below hb G.out.lt
    replace hg := Hid.mk (hg.out.trans (grown_of hb _))
    replace h : Hid (RIn w6 kr S σ6) := Hid.mk (h.out.below hb h.out.lt)
    have ⟨z0, p0, f0⟩ := X.at
    have ⟨z1, p1, f1⟩ := G.at
    have hn1 : kg ≠ w.heap.size := by omega
    replace X := Hid.mk X
    replace G := Hid.mk G
    replace hxg := Hid.mk hxg
    clear hb c7
    go_wp2_with fail
    have X1 := X.out.kept (grown_set w6 kg 2 (.string (str D))) (Ne.symm hn1)
    have h1 := h.out.kept (grown_set w6 kg 2 (.string (str D))) (Ne.symm hgk)
    have g1 := grown_box (o := 2) (v := .string (str D)) hg.out (Nat.le_of_lt hxg.out)
    have b4 : Box ((((((w6.setCell ⟨kg, 2, none⟩ (.string (str D)))).setCell ⟨w.heap.size, 0, none⟩ (.int .u64 y1)).setCell ⟨w.heap.size, 1, none⟩ (.int .u64 y2)).setCell ⟨w.heap.size, 2, none⟩ (.string (str D))).setCell ⟨w.heap.size, 3, none⟩ (.slice none 0 0)) w.heap.size #[.int .u64 y1, .int .u64 y2, .string (str D), .slice none 0 0] 52 := Box.setRow X1 [.int .u64 y1, .int .u64 y2, .string (str D), .slice none 0 0] rfl
    have h4 : RIn ((((((w6.setCell ⟨kg, 2, none⟩ (.string (str D)))).setCell ⟨w.heap.size, 0, none⟩ (.int .u64 y1)).setCell ⟨w.heap.size, 1, none⟩ (.int .u64 y2)).setCell ⟨w.heap.size, 2, none⟩ (.string (str D))).setCell ⟨w.heap.size, 3, none⟩ (.slice none 0 0)) kr S σ6 := Box.setRow_other (cs := [.int .u64 y1, .int .u64 y2, .string (str D), .slice none 0 0]) h1 hne
    have hg4 : w.grownBy ((((((w6.setCell ⟨kg, 2, none⟩ (.string (str D)))).setCell ⟨w.heap.size, 0, none⟩ (.int .u64 y1)).setCell ⟨w.heap.size, 1, none⟩ (.int .u64 y2)).setCell ⟨w.heap.size, 2, none⟩ (.string (str D))).setCell ⟨w.heap.size, 3, none⟩ (.slice none 0 0)) (some kr) := grown_row [.int .u64 y1, .int .u64 y2, .string (str D), .slice none 0 0] g1 (Nat.le_refl _)
    have ⟨_, q4, _⟩ := b4.at
    clear z0 p0 f0 z1 p1 f1 X G hg h b4 X1 h1 g1
    generalize (((((w6.setCell ⟨kg, 2, none⟩ (.string (str D)))).setCell ⟨w.heap.size, 0, none⟩ (.int .u64 y1)).setCell ⟨w.heap.size, 1, none⟩ (.int .u64 y2)).setCell ⟨w.heap.size, 2, none⟩ (.string (str D))).setCell ⟨w.heap.size, 3, none⟩ (.slice none 0 0) = W4 at *
    simp [bodyPost, results, Tryd.results29, go_sem, q4]
    exact ⟨none, 0, by simp, ⟨rfl, .inl ⟨rfl, rfl⟩⟩, h4, hg4⟩
end Go.Proofs.YtdmkedpnkejpbaaDoor
