import Derived.Test.YtdmkedpnkejpbaaDoorP32
import Derived.Test.YtdmkedpnkejpbaaDoorICode
/-
  Stage 4, image: the document's reader: a region.
-/
namespace Go.Proofs.YtdmkedpnkejpbaaDoor
open Go.RowKit

theorem take_e0 {S : List UInt8} {n : Nat} {τ : RS} (h : (takeS S n τ).e = 0) : τ.e = 0 := by
  by_cases q : τ.e = 0
  · exact q
  · rw [takeS_bad S n τ q] at h; exact absurd h q
set_option maxRecDepth 10000 in
set_option maxHeartbeats 4000000 in
theorem dregion_any (S : List UInt8) (kr : Nat) (σ : RS) (w : World) (h : DIn w kr S σ) (hi : σ.In S) (hS : S.length ≤ 1000000) :
    Calls Tryd.prog 15 #[.pointer (some ⟨kr, 0, none⟩)] w fun x w' => ∃ (r : PReg) (sa : Option Addr) (sc : Nat), x = .returned (.agg #[.int .u64 r.b, .int .u64 r.n, .string (str r.data), .slice sa r.slots.length sc]) ∧ w'.ownsRow w.heap.size 91 8 (.slice sa r.slots.length sc) r.slots.length (r.slots.flatMap PSlot.vals) ∧ DIn w' kr S (regP S σ).2 ∧ w.grownBy w' (some kr) ∧ ((regP S σ).2.e = 0 → r = (regP S σ).1) := by
  have hS2 : S.length ≤ 140737488355328 := by omega
  have hg : Hid (w.grownBy w (some kr)) := Hid.mk (grown_of (Below.refl _ _) _)
  replace h := Hid.mk h
  have c1 := fun W h1 => dnumber_any S kr 4 σ W h1 hi hS2 (by omega)
  have i1 := takeS_in (S := S) 4 hi
  have c2 := fun W h1 => dnumber_any S kr 4 (takeS S 4 σ) W h1 i1 hS2 (by omega)
  have i2 := takeS_in (S := S) 4 i1
  have c3 := fun W h1 => dcount_any S kr 2 (takeS S 4 (takeS S 4 σ)) W h1 i2 hS2 (by omega)
  have i3 : (regS S σ).In S := takeS_in (S := S) 2 i2
  have hk0 := num2 S (takeS S 4 (takeS S 4 σ))
  have hd0 := num2 S (regS S σ)
  have hkk := toNat_num S 2 (takeS S 4 (takeS S 4 σ))
  have hdd := toNat_num S 2 (regS S σ)
  have c5 := fun W h1 => dcount_any S kr 2 (regS S σ) W h1 i3 hS2 (by omega)
  have i5 := takeS_in (S := S) 2 i3
  have c6 := fun W h1 => dtake_any S kr (regD S σ) (takeS S 2 (regS S σ)) W h1 i5 hS2 (by unfold regD; omega)
  have hst : takeS S 2 (takeS S 4 (takeS S 4 σ)) = regS S σ := rfl
  have hbad : (regS S σ).e ≠ 0 → regK S σ = 0 := fun q => by unfold regK; rw [num_bad S 2 _ q]; rfl
  rw [hst] at c3
  have hkd : (numV S 2 (takeS S 4 (takeS S 4 σ))).toNat = regK S σ := rfl
  have hdn : (numV S 2 (regS S σ)).toNat = regD S σ := rfl
  rw [hkd] at hkk
  rw [hdn] at hdd
  rw [← hkk] at c3 hk0
  rw [← hdd] at c5 hd0
  have hsl := Lp.start (slotP S) (regK S σ) (regS S σ) hbad
  unfold regP
  clear hst hkd hdn hkk hdd i1 i2 i5 hbad
  generalize listF (slotP S) (regK S σ) (regS S σ) [] = R at *
  generalize regK S σ = n at *
  generalize regD S σ = d at *
  generalize takeV S d (takeS S 2 (regS S σ)) = D at *
  generalize takeS S d (takeS S 2 (regS S σ)) = σ6 at *
  generalize takeS S 2 (regS S σ) = σ5 at *
  generalize regS S σ = σ3 at *
  generalize numV S 4 (takeS S 4 σ) = y2 at *
  generalize takeS S 4 (takeS S 4 σ) = σ2 at *
  generalize numV S 4 σ = y1 at *
  generalize takeS S 4 σ = σ1 at *
  have hn : n ≤ 65535 := by omega
  have hd : d ≤ 65535 := by omega
  clear hk0 hd0
  by_cases hn0 : n = 0
  · rw [if_neg (by omega)]
    simp only
    clear hsl R i3
    subst hn0
    go_enter Tryd.func15, Tryd.ntmps15
    go_upto_region 1 with fail
    have Xx := Box.new w #[.int .u64 0, .int .u64 0, .string ⟨#[]⟩, .slice none 0 0] 52
    have nkx : w.heap.size ≠ kr := by have := h.out.lt; omega
    have lx : w.heap.size ≤ w.heap.size := hg.out.size
    replace h : Hid (DIn (w.alloc (.cells #[.int .u64 0, .int .u64 0, .string ⟨#[]⟩, .slice none 0 0] 52)) kr S σ) := Hid.mk (h.out.alloc _)
    replace hg := Hid.mk (hg.out.trans (grown_of ((Gr.refl w).alloc (.cells #[.int .u64 0, .int .u64 0, .string ⟨#[]⟩, .slice none 0 0] 52)).below (some kr)))
    generalize w.alloc (.cells #[.int .u64 0, .int .u64 0, .string ⟨#[]⟩, .slice none 0 0] 52) = W1 at *
    replace Xx := Hid.mk Xx
    replace nkx := Hid.mk nkx
    replace lx := Hid.mk lx
    go_upto_region 2 with fail
    have Xu := Box.new W1 #[.int .u64 0, .int .u64 0, .string ⟨#[]⟩, .slice none 0 0] 52
    have nku : W1.heap.size ≠ kr := by have := h.out.lt; omega
    have lu : w.heap.size ≤ W1.heap.size := hg.out.size
    have nnxu : w.heap.size ≠ W1.heap.size := by have := Xx.out.lt; omega
    replace Xx := Hid.mk (Xx.out.alloc (.cells #[.int .u64 0, .int .u64 0, .string ⟨#[]⟩, .slice none 0 0] 52))
    replace h : Hid (DIn (W1.alloc (.cells #[.int .u64 0, .int .u64 0, .string ⟨#[]⟩, .slice none 0 0] 52)) kr S σ) := Hid.mk (h.out.alloc _)
    replace hg := Hid.mk (hg.out.trans (grown_of ((Gr.refl W1).alloc (.cells #[.int .u64 0, .int .u64 0, .string ⟨#[]⟩, .slice none 0 0] 52)).below (some kr)))
    generalize W1.alloc (.cells #[.int .u64 0, .int .u64 0, .string ⟨#[]⟩, .slice none 0 0] 52) = W2 at *
    generalize W1.heap.size = ku at *
    replace Xu := Hid.mk Xu
    replace nku := Hid.mk nku
    replace lu := Hid.mk lu
    replace nnxu := Hid.mk nnxu
    go_wp2_with fail
    refine (c1 _ h.out).mono ?_
    rintro x W3 ⟨rfl, h1, hg2⟩
    replace Xx := Hid.mk (Xx.out.kept hg2 nkx.out)
    replace Xu := Hid.mk (Xu.out.kept hg2 nku.out)
    replace hg := Hid.mk (hg.out.trans hg2)
    replace h := Hid.mk h1
    clear hg2 h1 c1
    have ⟨zu, pu, fu⟩ := Xu.out.at
    go_wp2_with fail
    clear zu pu fu
    replace Xx : Hid (Box (W3.setCell ⟨ku, 0, none⟩ (.int .u64 y1)) w.heap.size #[.int .u64 0, .int .u64 0, .string ⟨#[]⟩, .slice none 0 0] 52) := Hid.mk (Box.setRow_other (cs := [.int .u64 y1]) (j := 0) Xx.out nnxu.out.symm)
    replace Xu : Hid (Box (W3.setCell ⟨ku, 0, none⟩ (.int .u64 y1)) ku #[.int .u64 y1, .int .u64 0, .string ⟨#[]⟩, .slice none 0 0] 52) := Hid.mk (by have q := Xu.out.set 0 (.int .u64 y1); simpa using q)
    replace h : Hid (DIn (W3.setCell ⟨ku, 0, none⟩ (.int .u64 y1)) kr S σ1) := Hid.mk (Box.setRow_other (cs := [.int .u64 y1]) (j := 0) h.out nku.out)
    replace hg : Hid (w.grownBy (W3.setCell ⟨ku, 0, none⟩ (.int .u64 y1)) (some kr)) := Hid.mk (grown_row [.int .u64 y1] (j := 0) hg.out lu.out)
    generalize (W3.setCell ⟨ku, 0, none⟩ (.int .u64 y1)) = W4 at *
    refine (c2 _ h.out).mono ?_
    rintro x W5 ⟨rfl, h1, hg2⟩
    replace Xx := Hid.mk (Xx.out.kept hg2 nkx.out)
    replace Xu := Hid.mk (Xu.out.kept hg2 nku.out)
    replace hg := Hid.mk (hg.out.trans hg2)
    replace h := Hid.mk h1
    clear hg2 h1 c2
    have ⟨zu, pu, fu⟩ := Xu.out.at
    go_wp2_with fail
    clear zu pu fu
    replace Xx : Hid (Box (W5.setCell ⟨ku, 1, none⟩ (.int .u64 y2)) w.heap.size #[.int .u64 0, .int .u64 0, .string ⟨#[]⟩, .slice none 0 0] 52) := Hid.mk (Box.setRow_other (cs := [.int .u64 y2]) (j := 1) Xx.out nnxu.out.symm)
    replace Xu : Hid (Box (W5.setCell ⟨ku, 1, none⟩ (.int .u64 y2)) ku #[.int .u64 y1, .int .u64 y2, .string ⟨#[]⟩, .slice none 0 0] 52) := Hid.mk (by have q := Xu.out.set 1 (.int .u64 y2); simpa using q)
    replace h : Hid (DIn (W5.setCell ⟨ku, 1, none⟩ (.int .u64 y2)) kr S σ2) := Hid.mk (Box.setRow_other (cs := [.int .u64 y2]) (j := 1) h.out nku.out)
    replace hg : Hid (w.grownBy (W5.setCell ⟨ku, 1, none⟩ (.int .u64 y2)) (some kr)) := Hid.mk (grown_row [.int .u64 y2] (j := 1) hg.out lu.out)
    generalize (W5.setCell ⟨ku, 1, none⟩ (.int .u64 y2)) = W6 at *
    refine (c3 _ h.out).mono ?_
    rintro x W7 ⟨rfl, h1, hg2⟩
    replace Xx := Hid.mk (Xx.out.kept hg2 nkx.out)
    replace Xu := Hid.mk (Xu.out.kept hg2 nku.out)
    replace hg := Hid.mk (hg.out.trans hg2)
    replace h := Hid.mk h1
    clear hg2 h1 c3
    go_wp2_with fail
    refine (c5 _ h.out).mono ?_
    rintro x W8 ⟨rfl, h1, hg2⟩
    replace Xx := Hid.mk (Xx.out.kept hg2 nkx.out)
    replace Xu := Hid.mk (Xu.out.kept hg2 nku.out)
    replace hg := Hid.mk (hg.out.trans hg2)
    replace h := Hid.mk h1
    clear hg2 h1 c5
    go_wp2_with fail
    refine (c6 _ h.out).mono ?_
    rintro x W9 ⟨rfl, h1, hg2⟩
    replace Xx := Hid.mk (Xx.out.kept hg2 nkx.out)
    replace Xu := Hid.mk (Xu.out.kept hg2 nku.out)
    replace hg := Hid.mk (hg.out.trans hg2)
    replace h := Hid.mk h1
    clear hg2 h1 c6
    have ⟨zu, pu, fu⟩ := Xu.out.at
    go_upto_region 8 with fail
    clear zu pu fu
    replace Xx : Hid (Box (W9.setCell ⟨ku, 2, none⟩ (.string (str D))) w.heap.size #[.int .u64 0, .int .u64 0, .string ⟨#[]⟩, .slice none 0 0] 52) := Hid.mk (Box.setRow_other (cs := [.string (str D)]) (j := 2) Xx.out nnxu.out.symm)
    replace Xu : Hid (Box (W9.setCell ⟨ku, 2, none⟩ (.string (str D))) ku #[.int .u64 y1, .int .u64 y2, .string (str D), .slice none 0 0] 52) := Hid.mk (by have q := Xu.out.set 2 (.string (str D)); simpa using q)
    replace h : Hid (DIn (W9.setCell ⟨ku, 2, none⟩ (.string (str D))) kr S σ6) := Hid.mk (Box.setRow_other (cs := [.string (str D)]) (j := 2) h.out nku.out)
    replace hg : Hid (w.grownBy (W9.setCell ⟨ku, 2, none⟩ (.string (str D))) (some kr)) := Hid.mk (grown_row [.string (str D)] (j := 2) hg.out lu.out)
    generalize (W9.setCell ⟨ku, 2, none⟩ (.string (str D))) = W10 at *
    have ⟨zu, pu, fu⟩ := Xu.out.at
    have ⟨zx, px, fx⟩ := Xx.out.at
    have ⟨zh, ph, fh⟩ := h.out.at
    go_wp2_with fail
    go_loopw [6] (fun i wr => i = .int .i64 0 ∧ wr = W10) (fun _ _ => 0)
    case atStart => exact ⟨rfl, rfl⟩
    case round =>
      obtain ⟨rfl, rfl⟩ := hrel
      go_wp2_with fail
      have b4 : Box ((((wr.setCell ⟨w.heap.size, 0, none⟩ (.int .u64 y1)).setCell ⟨w.heap.size, 1, none⟩ (.int .u64 y2)).setCell ⟨w.heap.size, 2, none⟩ (.string (str D))).setCell ⟨w.heap.size, 3, none⟩ (.slice none 0 0)) w.heap.size #[.int .u64 y1, .int .u64 y2, .string (str D), .slice none 0 0] 52 := Box.setRow Xx.out [.int .u64 y1, .int .u64 y2, .string (str D), .slice none 0 0] rfl
      have h4 : DIn ((((wr.setCell ⟨w.heap.size, 0, none⟩ (.int .u64 y1)).setCell ⟨w.heap.size, 1, none⟩ (.int .u64 y2)).setCell ⟨w.heap.size, 2, none⟩ (.string (str D))).setCell ⟨w.heap.size, 3, none⟩ (.slice none 0 0)) kr S σ6 := Box.setRow_other (cs := [.int .u64 y1, .int .u64 y2, .string (str D), .slice none 0 0]) (j := 0) h.out nkx.out
      have hg4 : w.grownBy ((((wr.setCell ⟨w.heap.size, 0, none⟩ (.int .u64 y1)).setCell ⟨w.heap.size, 1, none⟩ (.int .u64 y2)).setCell ⟨w.heap.size, 2, none⟩ (.string (str D))).setCell ⟨w.heap.size, 3, none⟩ (.slice none 0 0)) (some kr) := grown_row [.int .u64 y1, .int .u64 y2, .string (str D), .slice none 0 0] (j := 0) hg.out lx.out
      have ⟨_, q4, _⟩ := b4.at
      clear b4 h hg Xx Xu 
      generalize ((((wr.setCell ⟨w.heap.size, 0, none⟩ (.int .u64 y1)).setCell ⟨w.heap.size, 1, none⟩ (.int .u64 y2)).setCell ⟨w.heap.size, 2, none⟩ (.string (str D))).setCell ⟨w.heap.size, 3, none⟩ (.slice none 0 0)) = W4 at *
      simp [bodyPost, results, Tryd.results15, go_sem, q4]
      exact ⟨⟨y1, y2, D, []⟩, none, 0, ⟨rfl, rfl, rfl, rfl, rfl, rfl⟩, ⟨rfl, .inl ⟨rfl, rfl⟩⟩, h4, hg4, fun _ => rfl⟩
  rw [if_pos (by omega)]
  simp only
  clear c5 c6 hd
  have hn1 : (((n : Nat) : Int) == 0) = false := by simp; omega
  go_enter Tryd.func15, Tryd.ntmps15
  go_upto_region 1 with fail
  have Xx := Box.new w #[.int .u64 0, .int .u64 0, .string ⟨#[]⟩, .slice none 0 0] 52
  have nkx : w.heap.size ≠ kr := by have := h.out.lt; omega
  have lx : w.heap.size ≤ w.heap.size := hg.out.size
  replace h : Hid (DIn (w.alloc (.cells #[.int .u64 0, .int .u64 0, .string ⟨#[]⟩, .slice none 0 0] 52)) kr S σ) := Hid.mk (h.out.alloc _)
  replace hg := Hid.mk (hg.out.trans (grown_of ((Gr.refl w).alloc (.cells #[.int .u64 0, .int .u64 0, .string ⟨#[]⟩, .slice none 0 0] 52)).below (some kr)))
  generalize w.alloc (.cells #[.int .u64 0, .int .u64 0, .string ⟨#[]⟩, .slice none 0 0] 52) = W1 at *
  replace Xx := Hid.mk Xx
  replace nkx := Hid.mk nkx
  replace lx := Hid.mk lx
  go_upto_region 2 with fail
  have Xu := Box.new W1 #[.int .u64 0, .int .u64 0, .string ⟨#[]⟩, .slice none 0 0] 52
  have nku : W1.heap.size ≠ kr := by have := h.out.lt; omega
  have lu : w.heap.size ≤ W1.heap.size := hg.out.size
  have nnxu : w.heap.size ≠ W1.heap.size := by have := Xx.out.lt; omega
  replace Xx := Hid.mk (Xx.out.alloc (.cells #[.int .u64 0, .int .u64 0, .string ⟨#[]⟩, .slice none 0 0] 52))
  replace h : Hid (DIn (W1.alloc (.cells #[.int .u64 0, .int .u64 0, .string ⟨#[]⟩, .slice none 0 0] 52)) kr S σ) := Hid.mk (h.out.alloc _)
  replace hg := Hid.mk (hg.out.trans (grown_of ((Gr.refl W1).alloc (.cells #[.int .u64 0, .int .u64 0, .string ⟨#[]⟩, .slice none 0 0] 52)).below (some kr)))
  generalize W1.alloc (.cells #[.int .u64 0, .int .u64 0, .string ⟨#[]⟩, .slice none 0 0] 52) = W2 at *
  generalize W1.heap.size = ku at *
  replace Xu := Hid.mk Xu
  replace nku := Hid.mk nku
  replace lu := Hid.mk lu
  replace nnxu := Hid.mk nnxu
  go_wp2_with fail
  refine (c1 _ h.out).mono ?_
  rintro x W3 ⟨rfl, h1, hg2⟩
  replace Xx := Hid.mk (Xx.out.kept hg2 nkx.out)
  replace Xu := Hid.mk (Xu.out.kept hg2 nku.out)
  replace hg := Hid.mk (hg.out.trans hg2)
  replace h := Hid.mk h1
  clear hg2 h1 c1
  have ⟨zu, pu, fu⟩ := Xu.out.at
  go_wp2_with fail
  clear zu pu fu
  replace Xx : Hid (Box (W3.setCell ⟨ku, 0, none⟩ (.int .u64 y1)) w.heap.size #[.int .u64 0, .int .u64 0, .string ⟨#[]⟩, .slice none 0 0] 52) := Hid.mk (Box.setRow_other (cs := [.int .u64 y1]) (j := 0) Xx.out nnxu.out.symm)
  replace Xu : Hid (Box (W3.setCell ⟨ku, 0, none⟩ (.int .u64 y1)) ku #[.int .u64 y1, .int .u64 0, .string ⟨#[]⟩, .slice none 0 0] 52) := Hid.mk (by have q := Xu.out.set 0 (.int .u64 y1); simpa using q)
  replace h : Hid (DIn (W3.setCell ⟨ku, 0, none⟩ (.int .u64 y1)) kr S σ1) := Hid.mk (Box.setRow_other (cs := [.int .u64 y1]) (j := 0) h.out nku.out)
  replace hg : Hid (w.grownBy (W3.setCell ⟨ku, 0, none⟩ (.int .u64 y1)) (some kr)) := Hid.mk (grown_row [.int .u64 y1] (j := 0) hg.out lu.out)
  generalize (W3.setCell ⟨ku, 0, none⟩ (.int .u64 y1)) = W4 at *
  refine (c2 _ h.out).mono ?_
  rintro x W5 ⟨rfl, h1, hg2⟩
  replace Xx := Hid.mk (Xx.out.kept hg2 nkx.out)
  replace Xu := Hid.mk (Xu.out.kept hg2 nku.out)
  replace hg := Hid.mk (hg.out.trans hg2)
  replace h := Hid.mk h1
  clear hg2 h1 c2
  have ⟨zu, pu, fu⟩ := Xu.out.at
  go_wp2_with fail
  clear zu pu fu
  replace Xx : Hid (Box (W5.setCell ⟨ku, 1, none⟩ (.int .u64 y2)) w.heap.size #[.int .u64 0, .int .u64 0, .string ⟨#[]⟩, .slice none 0 0] 52) := Hid.mk (Box.setRow_other (cs := [.int .u64 y2]) (j := 1) Xx.out nnxu.out.symm)
  replace Xu : Hid (Box (W5.setCell ⟨ku, 1, none⟩ (.int .u64 y2)) ku #[.int .u64 y1, .int .u64 y2, .string ⟨#[]⟩, .slice none 0 0] 52) := Hid.mk (by have q := Xu.out.set 1 (.int .u64 y2); simpa using q)
  replace h : Hid (DIn (W5.setCell ⟨ku, 1, none⟩ (.int .u64 y2)) kr S σ2) := Hid.mk (Box.setRow_other (cs := [.int .u64 y2]) (j := 1) h.out nku.out)
  replace hg : Hid (w.grownBy (W5.setCell ⟨ku, 1, none⟩ (.int .u64 y2)) (some kr)) := Hid.mk (grown_row [.int .u64 y2] (j := 1) hg.out lu.out)
  generalize (W5.setCell ⟨ku, 1, none⟩ (.int .u64 y2)) = W6 at *
  refine (c3 _ h.out).mono ?_
  rintro x W7 ⟨rfl, h1, hg2⟩
  replace Xx := Hid.mk (Xx.out.kept hg2 nkx.out)
  replace Xu := Hid.mk (Xu.out.kept hg2 nku.out)
  replace hg := Hid.mk (hg.out.trans hg2)
  replace h := Hid.mk h1
  clear hg2 h1 c3
  go_upto_region 9 with fail
  go_loopw [6] (fun i wr => ∃ (j : Nat) (L : List PSlot) (τ : RS) (la : Option Addr) (lc : Nat), i = .int .i64 j ∧ j ≤ n ∧ Hid (Box wr w.heap.size #[.int .u64 0, .int .u64 0, .string ⟨#[]⟩, .slice none 0 0] 52 ∧ Box wr ku #[.int .u64 y1, .int .u64 y2, .string ⟨#[]⟩, .slice la L.length lc] 52 ∧ wr.ownsRow w.heap.size 91 8 (.slice la L.length lc) L.length (L.flatMap PSlot.vals) ∧ L.length = j ∧ DIn wr kr S τ ∧ τ.In S ∧ w.grownBy wr (some kr) ∧ Lp (slotP S) R (n - j) τ L)) (fun i _ => n - (intOf i).toNat)
  case atStart => exact ⟨0, [], σ3, none, 0, rfl, by omega, ⟨Xx.out, Xu.out, ⟨rfl, .inl ⟨rfl, rfl⟩⟩, rfl, h.out, i3, hg.out, hsl⟩⟩
  case round =>
    clear Xx Xu h hg hsl i3
    obtain ⟨j, L, τ, la, lc, rfl, hj, ⟨Xx, Xu, Os, hL, h, hi, hg, hF⟩⟩ := hrel
    replace Xx := Hid.mk Xx
    replace Xu := Hid.mk Xu
    replace Os := Hid.mk Os
    replace h := Hid.mk h
    replace hg := Hid.mk hg
    have ⟨zh, ph, fh⟩ := h.out.at
    have ⟨zu, pu, fu⟩ := Xu.out.at
    have ⟨zx, px, fx⟩ := Xx.out.at
    by_cases hjn : j < n
    · have jl : (j : Int) < n := by omega
      by_cases he : τ.e = 0
      · have he' : (τ.e == 0) = true := by simpa using he
        have hiw := inc_w (m := j) (by omega)
        have ct := fun W h1 => dtyped_any S kr τ W h1 hi hS
        have it := kindP_in hi
        have cn := fun W h1 => dnumber_any S kr 8 (kindP S τ).2 W h1 it hS2 (by omega)
        have hi1 := slotP_in hi
        have hF1 : ∀ t, ((kindP S τ).2.e = 0 → t = (kindP S τ).1) → Lp (slotP S) R (n - (j + 1)) (slotP S τ).2 (L ++ [⟨t, numV S 8 (kindP S τ).2⟩]) := fun t q => by
          have := hF.step (by omega) he ⟨t, numV S 8 (kindP S τ).2⟩ (fun q2 => by rw [q (take_e0 q2)]; rfl)
          rw [show n - j - 1 = n - (j + 1) by omega] at this
          exact this
        have hsx : (slotP S τ).2 = takeS S 8 (kindP S τ).2 := rfl
        rw [hsx] at hF1 hi1
        clear hF hsx it hi
        replace he := Hid.mk he
        generalize numV S 8 (kindP S τ).2 = cu at *
        generalize takeS S 8 (kindP S τ).2 = τ2 at *
        generalize (kindP S τ).1 = t0 at *
        generalize (kindP S τ).2 = τ1 at *
        replace hF1 := Hid.mk hF1
        replace hL := Hid.mk hL
        go_wp2_with fail
        clear zh ph fh zu pu fu zx px fx
        refine (ct _ h.out).mono ?_
        rintro x W8 ⟨t, rfl, h1, hg2, hx⟩
        replace hF1 := Hid.mk (hF1.out t hx)
        replace Xx := Hid.mk (Xx.out.kept hg2 nkx.out)
        replace Xu := Hid.mk (Xu.out.kept hg2 nku.out)
        replace Os := Hid.mk (own_kept Os.out hg2 (own_ne Os.out h.out (by decide)))
        replace hg := Hid.mk (hg.out.trans hg2)
        replace h := Hid.mk h1
        clear hg2 h1 ct hx
        go_wp2_with fail
        have Xt := Box.new W8 #[.bool t.cap, .int .u64 t.b, .int .u64 t.e, .int .u64 t.lo, .int .u64 t.hi, .int .u8 t.p, .int .i64 t.s] 88
        have nkt : W8.heap.size ≠ kr := by have := h.out.lt; omega
        have lt : w.heap.size ≤ W8.heap.size := hg.out.size
        have nnxt : w.heap.size ≠ W8.heap.size := by have := Xx.out.lt; omega
        replace Xx := Hid.mk (Xx.out.alloc (.cells #[.bool t.cap, .int .u64 t.b, .int .u64 t.e, .int .u64 t.lo, .int .u64 t.hi, .int .u8 t.p, .int .i64 t.s] 88))
        have nnut : ku ≠ W8.heap.size := by have := Xu.out.lt; omega
        replace Xu := Hid.mk (Xu.out.alloc (.cells #[.bool t.cap, .int .u64 t.b, .int .u64 t.e, .int .u64 t.lo, .int .u64 t.hi, .int .u8 t.p, .int .i64 t.s] 88))
        replace Os := Hid.mk (own_below Os.out ((Gr.refl W8).alloc (.cells #[.bool t.cap, .int .u64 t.b, .int .u64 t.e, .int .u64 t.lo, .int .u64 t.hi, .int .u8 t.p, .int .i64 t.s] 88)).below)
        replace h : Hid (DIn (W8.alloc (.cells #[.bool t.cap, .int .u64 t.b, .int .u64 t.e, .int .u64 t.lo, .int .u64 t.hi, .int .u8 t.p, .int .i64 t.s] 88)) kr S τ1) := Hid.mk (h.out.alloc _)
        replace hg := Hid.mk (hg.out.trans (grown_of ((Gr.refl W8).alloc (.cells #[.bool t.cap, .int .u64 t.b, .int .u64 t.e, .int .u64 t.lo, .int .u64 t.hi, .int .u8 t.p, .int .i64 t.s] 88)).below (some kr)))
        generalize W8.alloc (.cells #[.bool t.cap, .int .u64 t.b, .int .u64 t.e, .int .u64 t.lo, .int .u64 t.hi, .int .u8 t.p, .int .i64 t.s] 88) = W9 at *
        generalize W8.heap.size = kt at *
        replace Xt := Hid.mk Xt
        replace nkt := Hid.mk nkt
        replace lt := Hid.mk lt
        replace nnxt := Hid.mk nnxt
        replace nnut := Hid.mk nnut
        refine (cn _ h.out).mono ?_
        rintro x W10 ⟨rfl, h1, hg2⟩
        replace Xx := Hid.mk (Xx.out.kept hg2 nkx.out)
        replace Xu := Hid.mk (Xu.out.kept hg2 nku.out)
        replace Xt := Hid.mk (Xt.out.kept hg2 nkt.out)
        replace Os := Hid.mk (own_kept Os.out hg2 (own_ne Os.out h.out (by decide)))
        replace hg := Hid.mk (hg.out.trans hg2)
        replace h := Hid.mk h1
        clear hg2 h1 cn
        have ⟨zu, pu, fu⟩ := Xu.out.at
        have ⟨zt, pt, ft⟩ := Xt.out.at
        have hA : At (W10.alloc (.cells #[.bool t.cap, .int .u64 t.b, .int .u64 t.e, .int .u64 t.lo, .int .u64 t.hi, .int .u8 t.p, .int .i64 t.s, .int .u64 cu] 91)) W10.heap.size [Value.bool t.cap, .int .u64 t.b, .int .u64 t.e, .int .u64 t.lo, .int .u64 t.hi, .int .u8 t.p, .int .i64 t.s, .int .u64 cu].toArray := At.new _ _ _
        replace Xx := Hid.mk (Xx.out.alloc (.cells #[.bool t.cap, .int .u64 t.b, .int .u64 t.e, .int .u64 t.lo, .int .u64 t.hi, .int .u8 t.p, .int .i64 t.s, .int .u64 cu] 91))
        replace Xu := Hid.mk (Xu.out.alloc (.cells #[.bool t.cap, .int .u64 t.b, .int .u64 t.e, .int .u64 t.lo, .int .u64 t.hi, .int .u8 t.p, .int .i64 t.s, .int .u64 cu] 91))
        replace Xt := Hid.mk (Xt.out.alloc (.cells #[.bool t.cap, .int .u64 t.b, .int .u64 t.e, .int .u64 t.lo, .int .u64 t.hi, .int .u8 t.p, .int .i64 t.s, .int .u64 cu] 91))
        replace Os := Hid.mk (own_below Os.out ((Gr.refl W10).alloc (.cells #[.bool t.cap, .int .u64 t.b, .int .u64 t.e, .int .u64 t.lo, .int .u64 t.hi, .int .u8 t.p, .int .i64 t.s, .int .u64 cu] 91)).below)
        replace h : Hid (DIn (W10.alloc (.cells #[.bool t.cap, .int .u64 t.b, .int .u64 t.e, .int .u64 t.lo, .int .u64 t.hi, .int .u8 t.p, .int .i64 t.s, .int .u64 cu] 91)) kr S τ2) := Hid.mk (h.out.alloc _)
        replace hg := Hid.mk (hg.out.trans (grown_of ((Gr.refl W10).alloc (.cells #[.bool t.cap, .int .u64 t.b, .int .u64 t.e, .int .u64 t.lo, .int .u64 t.hi, .int .u8 t.p, .int .i64 t.s, .int .u64 cu] 91)).below (some kr)))
        have hs := Hid.mk hg.out.size
        replace hA := Hid.mk hA
        go_wp2_with (at_builtin; refine wpList_append_el rfl (.tmp 42) (.tmp 46) 50 91 _ 8 64 rfl Tryd.underlying50 infoSlot rfl (by decide) (by decide) w.heap.size (.slice la L.length lc) L.length (L.flatMap PSlot.vals) [Value.bool t.cap, .int .u64 t.b, .int .u64 t.e, .int .u64 t.lo, .int .u64 t.hi, .int .u8 t.p, .int .i64 t.s, .int .u64 cu] rfl Os.out W10.heap.size rfl hA.out rfl (by simp [Value.oneCell']) (by have := hL.out; omega) hs.out ?_)
        intro g c w5 hrow hgr
        replace Xx := Hid.mk (Box.keptRow Xx.out hgr (own_ne Os.out Xx.out (by decide)))
        replace Xu := Hid.mk (Box.keptRow Xu.out hgr (own_ne Os.out Xu.out (by decide)))
        replace Xt := Hid.mk (Box.keptRow Xt.out hgr (own_ne Os.out Xt.out (by decide)))
        replace h : Hid (DIn w5 kr S τ2) := Hid.mk (Box.keptRow h.out hgr (own_ne Os.out h.out (by decide)))
        replace hg := Hid.mk (hg.out.andThen hgr (fun i hq => .inl (own_block Os.out i hq).1))
        replace Os := Hid.mk hrow
        clear hgr hA hs hrow
        clear Xt
        clear zu pu fu zt pt ft
        have ⟨zu, pu, fu⟩ := Xu.out.at
        replace Os : Hid ((w5.setCell ⟨ku, 3, none⟩ (.slice (some ⟨g, 0, none⟩) (L.length + 1) c)).ownsRow w.heap.size 91 8 (.slice (some ⟨g, 0, none⟩) (L.length + 1) c) (L.length + 1) ((L.flatMap PSlot.vals) ++ [Value.bool t.cap, .int .u64 t.b, .int .u64 t.e, .int .u64 t.lo, .int .u64 t.hi, .int .u8 t.p, .int .i64 t.s, .int .u64 cu])) := Hid.mk (own_row [.slice (some ⟨g, 0, none⟩) (L.length + 1) c] (j := 3) Os.out Xu.out (by decide))
        replace Xx : Hid (Box (w5.setCell ⟨ku, 3, none⟩ (.slice (some ⟨g, 0, none⟩) (L.length + 1) c)) w.heap.size #[.int .u64 0, .int .u64 0, .string ⟨#[]⟩, .slice none 0 0] 52) := Hid.mk (Box.setRow_other (cs := [.slice (some ⟨g, 0, none⟩) (L.length + 1) c]) (j := 3) Xx.out nnxu.out.symm)
        replace Xu : Hid (Box (w5.setCell ⟨ku, 3, none⟩ (.slice (some ⟨g, 0, none⟩) (L.length + 1) c)) ku #[.int .u64 y1, .int .u64 y2, .string ⟨#[]⟩, .slice (some ⟨g, 0, none⟩) (L.length + 1) c] 52) := Hid.mk (by have q := Xu.out.set 3 (.slice (some ⟨g, 0, none⟩) (L.length + 1) c); simpa using q)
        replace h : Hid (DIn (w5.setCell ⟨ku, 3, none⟩ (.slice (some ⟨g, 0, none⟩) (L.length + 1) c)) kr S τ2) := Hid.mk (Box.setRow_other (cs := [.slice (some ⟨g, 0, none⟩) (L.length + 1) c]) (j := 3) h.out nku.out)
        replace hg : Hid (w.grownBy (w5.setCell ⟨ku, 3, none⟩ (.slice (some ⟨g, 0, none⟩) (L.length + 1) c)) (some kr)) := Hid.mk (grown_row [.slice (some ⟨g, 0, none⟩) (L.length + 1) c] (j := 3) hg.out lu.out)
        go_wp2_with fail
        go_roundw
        case rel => exact ⟨j + 1, L ++ [⟨t, cu⟩], τ2, some ⟨g, 0, none⟩, c, by simp, by omega, ⟨Xx.out, by rw [List.length_append]; exact Xu.out, by rw [List.length_append, List.flatMap_append]; exact Os.out, by rw [List.length_append, hL.out]; rfl, h.out, hi1, hg.out, hF1.out⟩⟩
        case measure => simp [intOf]; omega
      · have he' : (τ.e == 0) = false := by simpa using he
        clear jl
        have jl : (j : Int) < n := by omega
        obtain ⟨r1, r2⟩ := hF.done (.inr he)
        replace r1 := Hid.mk r1
        replace r2 := Hid.mk r2
        clear hL hF hi
        go_wp2_with fail
        have O4s : ((((wr.setCell ⟨w.heap.size, 0, none⟩ (.int .u64 y1)).setCell ⟨w.heap.size, 1, none⟩ (.int .u64 y2)).setCell ⟨w.heap.size, 2, none⟩ (.string ⟨#[]⟩)).setCell ⟨w.heap.size, 3, none⟩ (.slice la L.length lc)).ownsRow w.heap.size 91 8 (.slice la L.length lc) L.length (L.flatMap PSlot.vals) := own_row [.int .u64 y1, .int .u64 y2, .string ⟨#[]⟩, .slice la L.length lc] (j := 0) Os.out Xx.out (by decide)
        have b4 : Box ((((wr.setCell ⟨w.heap.size, 0, none⟩ (.int .u64 y1)).setCell ⟨w.heap.size, 1, none⟩ (.int .u64 y2)).setCell ⟨w.heap.size, 2, none⟩ (.string ⟨#[]⟩)).setCell ⟨w.heap.size, 3, none⟩ (.slice la L.length lc)) w.heap.size #[.int .u64 y1, .int .u64 y2, .string ⟨#[]⟩, .slice la L.length lc] 52 := Box.setRow Xx.out [.int .u64 y1, .int .u64 y2, .string ⟨#[]⟩, .slice la L.length lc] rfl
        have h4 : DIn ((((wr.setCell ⟨w.heap.size, 0, none⟩ (.int .u64 y1)).setCell ⟨w.heap.size, 1, none⟩ (.int .u64 y2)).setCell ⟨w.heap.size, 2, none⟩ (.string ⟨#[]⟩)).setCell ⟨w.heap.size, 3, none⟩ (.slice la L.length lc)) kr S τ := Box.setRow_other (cs := [.int .u64 y1, .int .u64 y2, .string ⟨#[]⟩, .slice la L.length lc]) (j := 0) h.out nkx.out
        have hg4 : w.grownBy ((((wr.setCell ⟨w.heap.size, 0, none⟩ (.int .u64 y1)).setCell ⟨w.heap.size, 1, none⟩ (.int .u64 y2)).setCell ⟨w.heap.size, 2, none⟩ (.string ⟨#[]⟩)).setCell ⟨w.heap.size, 3, none⟩ (.slice la L.length lc)) (some kr) := grown_row [.int .u64 y1, .int .u64 y2, .string ⟨#[]⟩, .slice la L.length lc] (j := 0) hg.out lx.out
        have ⟨_, q4, _⟩ := b4.at
        clear b4 h hg Xx Xu Os
        generalize ((((wr.setCell ⟨w.heap.size, 0, none⟩ (.int .u64 y1)).setCell ⟨w.heap.size, 1, none⟩ (.int .u64 y2)).setCell ⟨w.heap.size, 2, none⟩ (.string ⟨#[]⟩)).setCell ⟨w.heap.size, 3, none⟩ (.slice la L.length lc)) = W4 at *
        simp [bodyPost, results, Tryd.results15, go_sem, q4]
        exact ⟨⟨y1, y2, [], L⟩, la, lc, ⟨rfl, rfl, rfl, rfl, rfl, rfl⟩, O4s, by rw [r1.out]; exact h4, hg4, fun q => by rw [r2.out q]⟩
    · have jl : ¬ (j : Int) < n := by omega
      obtain ⟨r1, r2⟩ := hF.done (.inl (by omega))
      replace r1 := Hid.mk r1
      replace r2 := Hid.mk r2
      clear hL hF hi
      go_wp2_with fail
      have O4s : ((((wr.setCell ⟨w.heap.size, 0, none⟩ (.int .u64 y1)).setCell ⟨w.heap.size, 1, none⟩ (.int .u64 y2)).setCell ⟨w.heap.size, 2, none⟩ (.string ⟨#[]⟩)).setCell ⟨w.heap.size, 3, none⟩ (.slice la L.length lc)).ownsRow w.heap.size 91 8 (.slice la L.length lc) L.length (L.flatMap PSlot.vals) := own_row [.int .u64 y1, .int .u64 y2, .string ⟨#[]⟩, .slice la L.length lc] (j := 0) Os.out Xx.out (by decide)
      have b4 : Box ((((wr.setCell ⟨w.heap.size, 0, none⟩ (.int .u64 y1)).setCell ⟨w.heap.size, 1, none⟩ (.int .u64 y2)).setCell ⟨w.heap.size, 2, none⟩ (.string ⟨#[]⟩)).setCell ⟨w.heap.size, 3, none⟩ (.slice la L.length lc)) w.heap.size #[.int .u64 y1, .int .u64 y2, .string ⟨#[]⟩, .slice la L.length lc] 52 := Box.setRow Xx.out [.int .u64 y1, .int .u64 y2, .string ⟨#[]⟩, .slice la L.length lc] rfl
      have h4 : DIn ((((wr.setCell ⟨w.heap.size, 0, none⟩ (.int .u64 y1)).setCell ⟨w.heap.size, 1, none⟩ (.int .u64 y2)).setCell ⟨w.heap.size, 2, none⟩ (.string ⟨#[]⟩)).setCell ⟨w.heap.size, 3, none⟩ (.slice la L.length lc)) kr S τ := Box.setRow_other (cs := [.int .u64 y1, .int .u64 y2, .string ⟨#[]⟩, .slice la L.length lc]) (j := 0) h.out nkx.out
      have hg4 : w.grownBy ((((wr.setCell ⟨w.heap.size, 0, none⟩ (.int .u64 y1)).setCell ⟨w.heap.size, 1, none⟩ (.int .u64 y2)).setCell ⟨w.heap.size, 2, none⟩ (.string ⟨#[]⟩)).setCell ⟨w.heap.size, 3, none⟩ (.slice la L.length lc)) (some kr) := grown_row [.int .u64 y1, .int .u64 y2, .string ⟨#[]⟩, .slice la L.length lc] (j := 0) hg.out lx.out
      have ⟨_, q4, _⟩ := b4.at
      clear b4 h hg Xx Xu Os
      generalize ((((wr.setCell ⟨w.heap.size, 0, none⟩ (.int .u64 y1)).setCell ⟨w.heap.size, 1, none⟩ (.int .u64 y2)).setCell ⟨w.heap.size, 2, none⟩ (.string ⟨#[]⟩)).setCell ⟨w.heap.size, 3, none⟩ (.slice la L.length lc)) = W4 at *
      simp [bodyPost, results, Tryd.results15, go_sem, q4]
      exact ⟨⟨y1, y2, [], L⟩, la, lc, ⟨rfl, rfl, rfl, rfl, rfl, rfl⟩, O4s, by rw [r1.out]; exact h4, hg4, fun q => by rw [r2.out q]⟩
end Go.Proofs.YtdmkedpnkejpbaaDoor


/-
  Stage 3, instr: pick; what 'fields' makes of raw numbers. The first half has Go in sight, the second none.
-/
namespace Go.Proofs.YtdmkedpnkejpbaaDoor
open Go.RowKit

def pickF (c n : Int) : Int := (if c < 0 then -(c + 1) else c) % n
theorem pickF_range (c n : Int) (hn : 0 < n) : 0 ≤ pickF c n ∧ pickF c n < n :=
  ⟨Int.emod_nonneg _ (by omega), Int.emod_lt_of_pos _ hn⟩
def R64 (n : Int) : Prop := -9223372036854775808 ≤ n ∧ n < 9223372036854775808
theorem ret_i {k : IntKind} {a b : Int} (h : a = b) : Ending.returned (.int k a) = .returned (.int k b) := by rw [h]
/-- What 'fields' makes of raw numbers, letter by letter. -/
def stepM (op : Int) (r : Ins) (l : Int) (n : Int) (i : Ins) : Ins :=
  if l = 114 then (if n = 0 then { i with a := pickF r.a 16 } else if n = 1 then { i with b := pickF r.b 16 } else { i with c := pickF r.c 16 })
  else if l = 105 then (if r.m < 0 ∧ op ≠ 70 ∧ op ≠ 71 then { i with m := -1 - pickF r.m 2147483648 } else { i with m := pickF r.m 2147483648 })
  else if l = 110 then { i with m := pickF r.m 65537 }
  else if l = 112 then { i with m := pickF r.m 128 }
  else if l = 115 then { i with m := pickF r.m 16 }
  else if l = 116 ∨ l = 103 then { i with m := pickF r.m 2147483648 }
  else if l = 99 then (if op = 28 then { i with m := pickF r.m 256 } else { i with c := pickF r.c 256 })
  else i
def fF (op : Int) (r : Ins) : List UInt8 → Int → Ins → Ins
  | [], _, i => i
  | l :: s, n, i => fF op r s (if (l.toNat : Int) = 114 then n + 1 else n) (stepM op r l.toNat n i)
def madeF (r : Ins) (op : Int) : Ins := fF op r (shapeOf op) 0 ⟨op, 0, 0, 0, 0⟩
theorem made_op (r : Ins) (op : Int) : (madeF r op).op = op := by
  have h1 : ∀ (l n : Int) (i : Ins), (stepM op r l n i).op = i.op := fun l n i => by unfold stepM; (repeat' split) <;> rfl
  have h2 : ∀ (s : List UInt8) (n : Int) (i : Ins), (fF op r s n i).op = i.op := by
    intro s
    induction s with
    | nil => intro n i; rfl
    | cons l s ih => intro n i; rw [fF, ih, h1]
  exact h2 _ _ _
theorem made_fields (r : Ins) (op : Int) (s : List UInt8) (hs : s ∈ shapes) (ht : op = 28 → s = [99]) :
    fR op s 0 (fF op r s 0 ⟨op, 0, 0, 0, 0⟩).a (fF op r s 0 ⟨op, 0, 0, 0, 0⟩).b (fF op r s 0 ⟨op, 0, 0, 0, 0⟩).c (fF op r s 0 ⟨op, 0, 0, 0, 0⟩).m = true := by
  have p := pickF_range
  have a16 := p r.a 16 (by omega)
  have b16 := p r.b 16 (by omega)
  have c16 := p r.c 16 (by omega)
  have c256 := p r.c 256 (by omega)
  have m31 := p r.m 2147483648 (by omega)
  have mn := p r.m 65537 (by omega)
  have mp := p r.m 128 (by omega)
  have ms := p r.m 16 (by omega)
  have mc := p r.m 256 (by omega)
  clear p
  simp only [shapes, List.mem_cons, List.not_mem_nil, or_false] at hs
  by_cases h28 : op = 28
  · obtain rfl := ht h28
    subst h28
    simp [fR, inE, loE, hiE, fF, stepM]; omega
  · by_cases h70 : op = 70 ∨ op = 71
    · have e : ¬ (op ≠ 70 ∧ op ≠ 71) := by omega
      rcases hs with rfl | rfl | rfl | rfl | rfl | rfl | rfl | rfl | rfl | rfl | rfl | rfl | rfl | rfl | rfl | rfl | rfl | rfl <;>
        (simp [fR, inE, loE, hiE, fF, stepM, h28, e]) <;> omega
    · have e : ¬ op = 70 ∧ ¬ op = 71 := by omega
      rcases hs with rfl | rfl | rfl | rfl | rfl | rfl | rfl | rfl | rfl | rfl | rfl | rfl | rfl | rfl | rfl | rfl | rfl | rfl <;>
        (simp [fR, inE, loE, hiE, fF, stepM, h28, e]) <;> (try split) <;> (try simp) <;> omega
theorem made_right (r : Ins) (op : Int) (h1 : op < 256) (hn : nameOf op ≠ []) : (madeF r op).right = 0 := by
  have h := made_fields r op (shapeOf op) (shape_in op h1) (fun e => by subst e; rfl)
  unfold Ins.right rightF
  rw [made_op, if_neg hn]
  unfold madeF
  rw [h]
  rfl
end Go.Proofs.YtdmkedpnkejpbaaDoor
