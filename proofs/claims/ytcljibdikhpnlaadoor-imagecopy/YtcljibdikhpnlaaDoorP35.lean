import Derived.Test.YtcljibdikhpnlaaDoorP34
import Derived.Test.YtcljibdikhpnlaaDoorP23
import Derived.Test.YtcljibdikhpnlaaDoorP20
/-
  Stage 4, image: the reader's image.
-/
namespace Go.Proofs.YtcljibdikhpnlaaDoor
open Go.RowKit

theorem prefix_take {M S : List UInt8} : M <+: S ↔ M.length ≤ S.length ∧ S.take M.length = M := by
  constructor
  · rintro ⟨t, rfl⟩
    simp
  · rintro ⟨_, h⟩
    exact ⟨S.drop M.length, by have := List.take_append_drop M.length S; rw [h] at this; exact this⟩
def preB (S : List UInt8) : Bool := decide (magicB <+: S)
set_option maxHeartbeats 400000 in
theorem litePrefix_any (S : List UInt8) (w : World) :
    Calls Tryd.prog 65 #[.string (str S), .string (str magicB)] w fun x w' => x = .returned (.bool (preB S)) ∧ w = w' := by
  have s1 := str_size S
  have s2 : (str magicB).size = 6 := rfl
  by_cases hl : 6 ≤ S.length
  · have he := extract_any S 0 6
    have hl' : (6 : Int) ≤ S.length := by omega
    by_cases hp : S.take 6 = magicB
    · have r : preB S = true := by unfold preB; rw [decide_eq_true_eq, prefix_take]; exact ⟨hl, hp⟩
      have e : ((str S).extract 0 6).toList = (str magicB).toList := by rw [he]; congr 2
      rw [r]
      clear he hp r
      generalize str S = S' at *
      generalize str magicB = M at *
      go_enter Tryd.func65, Tryd.ntmps65
      go_wp2_with fail
      go_ret
      exact ⟨rfl, rfl⟩
    · have r : preB S = false := by unfold preB; rw [decide_eq_false_iff_not, prefix_take]; exact fun q => hp q.2
      have e : ¬ ((str S).extract 0 6).toList = (str magicB).toList := by
        rw [he, str_list, str_list]
        intro q
        exact hp (by simpa using q)
      replace e : (((str S).extract 0 6).toList == (str magicB).toList) = false := by simpa using e
      rw [r]
      clear he hp r
      generalize str S = S' at *
      generalize str magicB = M at *
      go_enter Tryd.func65, Tryd.ntmps65
      go_wp2_with fail
      go_ret
      exact ⟨rfl, rfl⟩
  · have hl' : ¬ (6 : Int) ≤ S.length := by omega
    have r : preB S = false := by unfold preB; rw [decide_eq_false_iff_not, prefix_take]; exact fun q => hl q.1
    rw [r]
    clear r
    generalize str S = S' at *
    generalize str magicB = M at *
    go_enter Tryd.func65, Tryd.ntmps65
    go_wp2_with fail
    go_ret
    exact ⟨rfl, rfl⟩
set_option maxHeartbeats 400000 in
theorem HasPrefix_any (S : List UInt8) (w : World) :
    Calls Tryd.prog 46 #[.string (str S), .string (str magicB)] w fun x w' => x = .returned (.bool (preB S)) ∧ w = w' := by
  have hl := litePrefix_any S
  generalize str S = S' at *
  generalize str magicB = M at *
  go_enter Tryd.func46, Tryd.ntmps46
  go_wp2_with (go_at_call 65; refine (hl _).mono ?_; rintro x w' ⟨rfl, rfl⟩)
  go_ret
  exact ⟨rfl, rfl⟩
/-- A program in rows of its own, from block 'lo' on. -/
structure ImgOwn (lo : Nat) (w : World) (rv cv gv : Value) (m : PImg) : Prop where
  regs : ∃ css, w.ownsRow lo 47 4 rv m.regs.length css.flatten ∧ All2 (RegC lo w) css m.regs
  comps : ∃ css, w.ownsRow lo 52 2 cv m.comps.length css.flatten ∧ All2 (CompC lo w) css m.comps
  gates : ∃ css, w.ownsRow lo 55 4 gv m.gates.length css.flatten ∧ All2 (GateC lo w) css m.gates
/-- What is turned is of no row of a program. -/
structure Ne7 (w : World) (row : Option Nat) : Prop where
  inner : TyNes w row
  regs : TyNe w row 47
  comps : TyNe w row 52
  gates : TyNe w row 55
theorem ne7_none (w : World) : Ne7 w none := ⟨nes_none w, tyNe_none w _, tyNe_none w _, tyNe_none w _⟩
def Odd7 (t : TypeId) : Prop := t ≠ 69 ∧ t ≠ 71 ∧ t ≠ 74 ∧ t ≠ 67 ∧ t ≠ 47 ∧ t ≠ 52 ∧ t ≠ 55
instance (t : TypeId) : Decidable (Odd7 t) := by unfold Odd7; infer_instance
theorem ne7_box {w : World} {k : Nat} {cs : Array Value} {t : TypeId} (h : Box w k cs t) (ht : Odd7 t) : Ne7 w (some k) :=
  ⟨nes_box h ht.1 ht.2.1 ht.2.2.1 ht.2.2.2.1, tyNe_box h ht.2.2.2.2.1, tyNe_box h ht.2.2.2.2.2.1, tyNe_box h ht.2.2.2.2.2.2⟩
theorem ImgOwn.step {lo : Nat} {w w' : World} {rv cv gv : Value} {m : PImg} {row : Option Nat} (h : ImgOwn lo w rv cv gv m) (hg : w.grownBy w' row) (ht : Ne7 w row) : ImgOwn lo w' rv cv gv m := by
  obtain ⟨⟨a, a1, a2⟩, ⟨b, b1, b2⟩, ⟨c, c1, c2⟩⟩ := h
  exact ⟨⟨a, own_ty a1 hg ht.regs, a2.imp fun _ _ q => q.step hg ht.inner⟩, ⟨b, own_ty b1 hg ht.comps, b2.imp fun _ _ q => q.step hg ht.inner⟩, ⟨c, own_ty c1 hg ht.gates, c2.imp fun _ _ q => q.step hg ht.inner⟩⟩
theorem ImgOwn.row {lo : Nat} {rv cv gv : Value} {m : PImg} {k : Nat} {t : TypeId} (ht : Odd7 t) : ∀ (vs : List Value) {w : World} {j : Nat} {cs : Array Value}, ImgOwn lo w rv cv gv m → Box w k cs t → ImgOwn lo (setRow w k j vs) rv cv gv m
  | [], _, _, _, h, _ => h
  | u :: vs, w, j, _, h, hb => ImgOwn.row ht vs (h.step (grown_set w k j u) (ne7_box hb ht)) (hb.set j u)
theorem RegC.base {lo lo' : Nat} {w : World} {cs : List Value} {r : PReg} (h : RegC lo w cs r) (hl : lo' ≤ lo) : RegC lo' w cs r := by
  obtain ⟨sa, sc, e, h1⟩ := h
  exact ⟨sa, sc, e, own_base h1 hl⟩
theorem CompC.base {lo lo' : Nat} {w : World} {cs : List Value} {r : PComp} (h : CompC lo w cs r) (hl : lo' ≤ lo) : CompC lo' w cs r := by
  obtain ⟨ra, rc, ka, kc, e, h1, h2⟩ := h
  exact ⟨ra, rc, ka, kc, e, own_base h1 hl, own_base h2 hl⟩
theorem GateC.base {lo lo' : Nat} {w : World} {cs : List Value} {r : PGate} (h : GateC lo w cs r) (hl : lo' ≤ lo) : GateC lo' w cs r := by
  obtain ⟨xa, xc, ya, yc, e, h1, h2⟩ := h
  exact ⟨xa, xc, ya, yc, e, own_base h1 hl, own_base h2 hl⟩
theorem ImgOwn.base {lo lo' : Nat} {w : World} {rv cv gv : Value} {m : PImg} (h : ImgOwn lo w rv cv gv m) (hl : lo' ≤ lo) : ImgOwn lo' w rv cv gv m := by
  obtain ⟨⟨a, a1, a2⟩, ⟨b, b1, b2⟩, ⟨c, c1, c2⟩⟩ := h
  exact ⟨⟨a, own_base a1 hl, a2.imp fun _ _ q => q.base hl⟩, ⟨b, own_base b1 hl, b2.imp fun _ _ q => q.base hl⟩, ⟨c, own_base c1 hl, c2.imp fun _ _ q => q.base hl⟩⟩
set_option maxRecDepth 10000 in
set_option maxHeartbeats 4000000 in
theorem rimage_any (S : List UInt8) (kr : Nat) (w : World) (ht : TabIn w) (hk : 2 ≤ kr) (h : RIn w kr S ⟨0, 0, 0⟩) (hS : S.length ≤ 1000000) :
    Calls Tryd.prog 30 #[.pointer (some ⟨kr, 0, none⟩)] w fun x w' => ∃ ra rc ca cc ga gc, x = .returned (.agg #[.slice ra (imgP S).1.regs.length rc, .slice ca (imgP S).1.comps.length cc, .slice ga (imgP S).1.gates.length gc, .int .i64 (imgP S).1.depth]) ∧ ImgOwn w.heap.size w' (.slice ra (imgP S).1.regs.length rc) (.slice ca (imgP S).1.comps.length cc) (.slice ga (imgP S).1.gates.length gc) (imgP S).1 ∧ RIn w' kr S (imgP S).2 ∧ w.grownBy w' (some kr) := by
  have hS2 : S.length ≤ 140737488355328 := by omega
  have ss := str_size S
  have hne : w.heap.size ≠ kr := by have := h.lt; omega
  have hp := HasPrefix_any S
  have ⟨z0, p0, f0⟩ := (h.alloc (.cells #[.slice none 0 0, .slice none 0 0, .slice none 0 0, .int .i64 0] 26)).at
  by_cases hpre : magicB <+: S
  case neg =>
    have r1 : imgP S = (zImg, ⟨0, 40, 0⟩) := if_neg hpre
    have r2 : preB S = false := by unfold preB; rw [decide_eq_false_iff_not]; exact hpre
    have hF := fun W h1 => fail_any S kr ⟨0, 0, 0⟩ 40 0 W h1
    have r3 : failS 40 0 ⟨0, 0, 0⟩ = ⟨0, 40, 0⟩ := rfl
    rw [r3] at hF
    rw [r1]
    rw [r2] at hp
    unfold zImg
    simp only [List.length_nil]
    clear r1 r2 r3 hpre ht
    replace h := Hid.mk h
    go_enter Tryd.func30, Tryd.ntmps30
    go_wp2_with fail
    refine (hp _).mono ?_
    rintro x w1 ⟨rfl, rfl⟩
    go_wp2_with fail
    have X := Box.new w #[.slice none 0 0, .slice none 0 0, .slice none 0 0, .int .i64 0] 26
    have hg := grown_of ((Gr.refl w).alloc (.cells #[.slice none 0 0, .slice none 0 0, .slice none 0 0, .int .i64 0] 26)).below (some kr)
    have h2 : RIn (w.alloc (.cells #[.slice none 0 0, .slice none 0 0, .slice none 0 0, .int .i64 0] 26)) kr S ⟨0, 0, 0⟩ := h.out.alloc _
    clear z0 p0 f0 h hp
    refine (hF _ h2).mono ?_
    rintro x w2 ⟨rfl, h, hg2⟩
    replace X := X.kept hg2 hne
    replace hg := Hid.mk (hg.trans hg2)
    replace h := Hid.mk h
    clear hg2 h2 hF
    have ⟨z0, p0, f0⟩ := X.at
    replace X := Hid.mk X
    go_wp2_with fail
    have b4 : Box (((((w2).setCell ⟨w.heap.size, 0, none⟩ (.slice none 0 0)).setCell ⟨w.heap.size, 1, none⟩ (.slice none 0 0)).setCell ⟨w.heap.size, 2, none⟩ (.slice none 0 0)).setCell ⟨w.heap.size, 3, none⟩ (.int .i64 0)) w.heap.size #[.slice none 0 0, .slice none 0 0, .slice none 0 0, .int .i64 0] 26 := Box.setRow X.out [.slice none 0 0, .slice none 0 0, .slice none 0 0, .int .i64 0] rfl
    have h4 : RIn (((((w2).setCell ⟨w.heap.size, 0, none⟩ (.slice none 0 0)).setCell ⟨w.heap.size, 1, none⟩ (.slice none 0 0)).setCell ⟨w.heap.size, 2, none⟩ (.slice none 0 0)).setCell ⟨w.heap.size, 3, none⟩ (.int .i64 0)) kr S ⟨0, 40, 0⟩ := Box.setRow_other (cs := [.slice none 0 0, .slice none 0 0, .slice none 0 0, .int .i64 0]) h.out hne
    have hg4 : w.grownBy (((((w2).setCell ⟨w.heap.size, 0, none⟩ (.slice none 0 0)).setCell ⟨w.heap.size, 1, none⟩ (.slice none 0 0)).setCell ⟨w.heap.size, 2, none⟩ (.slice none 0 0)).setCell ⟨w.heap.size, 3, none⟩ (.int .i64 0)) (some kr) := grown_row [.slice none 0 0, .slice none 0 0, .slice none 0 0, .int .i64 0] hg.out (Nat.le_refl _)
    have ⟨_, q4, _⟩ := b4.at
    clear z0 p0 f0 X hg h b4
    generalize ((((w2).setCell ⟨w.heap.size, 0, none⟩ (.slice none 0 0)).setCell ⟨w.heap.size, 1, none⟩ (.slice none 0 0)).setCell ⟨w.heap.size, 2, none⟩ (.slice none 0 0)).setCell ⟨w.heap.size, 3, none⟩ (.int .i64 0) = W4 at *
    simp [bodyPost, results, Tryd.results30, go_sem, q4]
    exact ⟨none, 0, none, 0, none, 0, by simp, ⟨⟨[], ⟨rfl, .inl ⟨rfl, rfl⟩⟩, trivial⟩, ⟨[], ⟨rfl, .inl ⟨rfl, rfl⟩⟩, trivial⟩, ⟨[], ⟨rfl, .inl ⟨rfl, rfl⟩⟩, trivial⟩⟩, h4, hg4⟩
  have r1 : imgP S = (⟨(regsP S).1, (compsP S).1, (gatesP S).1, numV S 1 h0S⟩, restS S (gatesP S).2) := if_pos hpre
  have r2 : preB S = true := by unfold preB; rw [decide_eq_true_eq]; exact hpre
  have h6 : 6 ≤ S.length := (prefix_take.1 hpre).1
  have hTI : ∀ W, w.grownBy W (some kr) → TabIn W := fun W hg => ht.below (n := kr) (Below.of_grown hg (Nat.le_of_lt h.lt) (fun g e => by cases e; omega)) hk
  replace hTI := Hid.mk hTI
  rw [r1]
  rw [r2] at hp
  clear r1 r2 hpre ht
  have i0 : h0S.In S := h6
  have i1 : (h1S S).In S := takeS_in 1 i0
  have i2 : (h2S S).In S := takeS_in 1 i1
  have i3 : (h3S S).In S := takeS_in 1 i2
  have i4 : (h4S S).In S := takeS_in 1 i3
  have i5 : (regsP S).2.In S := listF_in (fun _ h => regP_in h) _ _ _ i4
  have i6 : (compsP S).2.In S := listF_in (fun _ h => compP_in h) _ _ _ i5
  have i7 : (gatesP S).2.In S := listF_in (fun _ h => gateP_in h) _ _ _ i6
  have c1 : ∀ W, RIn W kr S h0S → Calls Tryd.prog 48 #[.pointer (some ⟨kr, 0, none⟩), .int .i64 1] W fun x w' => x = .returned (.int .i64 (numV S 1 h0S)) ∧ RIn w' kr S (h1S S) ∧ W.grownBy w' (some kr) := fun W h1 => count_any S kr 1 h0S W h1 i0 hS2 (by omega)
  have c2 : ∀ W, RIn W kr S (h1S S) → Calls Tryd.prog 48 #[.pointer (some ⟨kr, 0, none⟩), .int .i64 1] W fun x w' => x = .returned (.int .i64 (numV S 1 (h1S S))) ∧ RIn w' kr S (h2S S) ∧ W.grownBy w' (some kr) := fun W h1 => count_any S kr 1 (h1S S) W h1 i1 hS2 (by omega)
  have c3 : ∀ W, RIn W kr S (h2S S) → Calls Tryd.prog 48 #[.pointer (some ⟨kr, 0, none⟩), .int .i64 1] W fun x w' => x = .returned (.int .i64 (numV S 1 (h2S S))) ∧ RIn w' kr S (h3S S) ∧ W.grownBy w' (some kr) := fun W h1 => count_any S kr 1 (h2S S) W h1 i2 hS2 (by omega)
  have c4 : ∀ W, RIn W kr S (h3S S) → Calls Tryd.prog 48 #[.pointer (some ⟨kr, 0, none⟩), .int .i64 1] W fun x w' => x = .returned (.int .i64 (numV S 1 (h3S S))) ∧ RIn w' kr S (h4S S) ∧ W.grownBy w' (some kr) := fun W h1 => count_any S kr 1 (h3S S) W h1 i3 hS2 (by omega)
  have c5 : ∀ W, RIn W kr S (h4S S) → Calls Tryd.prog 49 #[.pointer (some ⟨kr, 0, none⟩), .int .i64 (numV S 1 (h1S S)), .func (.func 50) #[.pointer (some ⟨kr, 0, none⟩)] #[]] W fun x w' => ∃ v, x = .returned v ∧ ∃ css, w'.ownsRow W.heap.size 47 4 v (regsP S).1.length css.flatten ∧ All2 (RegC W.heap.size w') css (regsP S).1 ∧ RIn w' kr S (regsP S).2 ∧ W.grownBy w' (some kr) := fun W h1 => by
    have hq := num1 S (h1S S)
    have := listRegion_any S kr (numV S 1 (h1S S)).toNat (h4S S) W h1 i4 hS (by omega)
    rwa [toNat_num] at this
  have c6 : ∀ W, TabIn W → RIn W kr S (regsP S).2 → Calls Tryd.prog 51 #[.pointer (some ⟨kr, 0, none⟩), .int .i64 (numV S 1 (h2S S)), .func (.func 52) #[.pointer (some ⟨kr, 0, none⟩)] #[]] W fun x w' => ∃ v, x = .returned v ∧ ∃ css, w'.ownsRow W.heap.size 52 2 v (compsP S).1.length css.flatten ∧ All2 (CompC W.heap.size w') css (compsP S).1 ∧ RIn w' kr S (compsP S).2 ∧ W.grownBy w' (some kr) := fun W h0 h1 => by
    have hq := num1 S (h2S S)
    have := listComp_any S kr (numV S 1 (h2S S)).toNat (regsP S).2 W h0 hk h1 i5 hS (by omega)
    rwa [toNat_num] at this
  have c7 : ∀ W, RIn W kr S (compsP S).2 → Calls Tryd.prog 53 #[.pointer (some ⟨kr, 0, none⟩), .int .i64 (numV S 1 (h3S S)), .func (.func 54) #[.pointer (some ⟨kr, 0, none⟩)] #[]] W fun x w' => ∃ v, x = .returned v ∧ ∃ css, w'.ownsRow W.heap.size 55 4 v (gatesP S).1.length css.flatten ∧ All2 (GateC W.heap.size w') css (gatesP S).1 ∧ RIn w' kr S (gatesP S).2 ∧ W.grownBy w' (some kr) := fun W h1 => by
    have hq := num1 S (h3S S)
    have := listGate_any S kr (numV S 1 (h3S S)).toNat (compsP S).2 W h1 i6 hS (by omega)
    rwa [toNat_num] at this
  have hF := fun W h1 => fail_any S kr (gatesP S).2 49 (gatesP S).2.i W h1
  have hrs : restS S (gatesP S).2 = if (gatesP S).2.i < S.length then failS 49 (gatesP S).2.i (gatesP S).2 else (gatesP S).2 := rfl
  unfold RS.In at i7
  generalize restS S (gatesP S).2 = σ8 at *
  clear i1 i2 i3 i4 i5 i6 i0
  generalize regsP S = q5 at *
  generalize compsP S = q6 at *
  generalize gatesP S = q7 at *
  generalize numV S 1 (h3S S) = y4 at *
  generalize h4S S = σ4 at *
  generalize numV S 1 (h2S S) = y3 at *
  generalize h3S S = σ3 at *
  generalize numV S 1 (h1S S) = y2 at *
  generalize h2S S = σ2 at *
  generalize h1S S = σ1 at *
  generalize numV S 1 h0S = y1 at *
  obtain ⟨L5, σ5⟩ := q5
  obtain ⟨L6, σ6⟩ := q6
  obtain ⟨L7, σ7⟩ := q7
  simp only at *
  replace h := Hid.mk h
  replace hrs := Hid.mk hrs
  go_enter Tryd.func30, Tryd.ntmps30
  go_wp2_with fail
  refine (hp _).mono ?_
  rintro x w1 ⟨rfl, rfl⟩
  go_wp2_with fail
  have X := Hid.mk ((Box.new w #[.slice none 0 0, .slice none 0 0, .slice none 0 0, .int .i64 0] 26).kept (grown_set _ kr 1 (.int .i64 6)) hne)
  have hg := Hid.mk ((grown_of ((Gr.refl w).alloc (.cells #[.slice none 0 0, .slice none 0 0, .slice none 0 0, .int .i64 0] 26)).below (some kr)).trans (grown_set _ kr 1 (.int .i64 6)))
  replace h : Hid (RIn ((w.alloc (.cells #[.slice none 0 0, .slice none 0 0, .slice none 0 0, .int .i64 0] 26)).setCell ⟨kr, 1, none⟩ (.int .i64 6)) kr S h0S) := Hid.mk ((h.out.alloc _).set 1 (.int .i64 6))
  clear z0 p0 f0 hp
  refine (c1 _ h.out).mono ?_
  clear h
  rintro x w2 ⟨rfl, h, hg2⟩
  replace X := Hid.mk (X.out.kept hg2 hne)
  replace hg := Hid.mk (hg.out.trans hg2)
  replace h := Hid.mk h
  clear hg2 c1
  go_wp2_with fail
  refine (c2 _ h.out).mono ?_
  clear h
  rintro x w3 ⟨rfl, h, hg2⟩
  replace X := Hid.mk (X.out.kept hg2 hne)
  replace hg := Hid.mk (hg.out.trans hg2)
  replace h := Hid.mk h
  clear hg2 c2
  go_wp2_with fail
  refine (c3 _ h.out).mono ?_
  clear h
  rintro x w4 ⟨rfl, h, hg2⟩
  replace X := Hid.mk (X.out.kept hg2 hne)
  replace hg := Hid.mk (hg.out.trans hg2)
  replace h := Hid.mk h
  clear hg2 c3
  go_wp2_with fail
  refine (c4 _ h.out).mono ?_
  clear h
  rintro x w5 ⟨rfl, h, hg2⟩
  replace X := Hid.mk (X.out.kept hg2 hne)
  replace hg := Hid.mk (hg.out.trans hg2)
  replace h := Hid.mk h
  clear hg2 c4
  go_wp2_with fail
  refine (c5 _ h.out).mono ?_
  clear h
  rintro x w6 ⟨v, rfl, rs, hO, hE, h, hg2⟩
  obtain ⟨ra, rc, rfl⟩ := own_slice hO
  have r := Hid.mk (And.intro (own_base hO hg.out.size) (hE.imp fun _ _ q => q.base hg.out.size))
  clear hO hE
  replace X := Hid.mk (X.out.kept hg2 hne)
  replace hg := Hid.mk (hg.out.trans hg2)
  replace h := Hid.mk h
  clear hg2 c5
  go_wp2_with fail
  have rk := Hid.mk (fun W hW => And.intro (own_kept (w' := W) r.out.1 hW (own_ne r.out.1 h.out (by decide))) (r.out.2.imp fun _ _ q => q.step hW (nes_box h.out (by decide) (by decide) (by decide) (by decide))))
  refine (c6 _ (hTI.out _ hg.out) h.out).mono ?_
  clear h
  rintro x w7 ⟨v, rfl, cs, hO, hE, h, hg2⟩
  obtain ⟨ca, cc, rfl⟩ := own_slice hO
  have c := Hid.mk (And.intro (own_base hO hg.out.size) (hE.imp fun _ _ q => q.base hg.out.size))
  clear hO hE
  replace r := Hid.mk (rk.out _ hg2)
  clear rk
  replace X := Hid.mk (X.out.kept hg2 hne)
  replace hg := Hid.mk (hg.out.trans hg2)
  replace h := Hid.mk h
  clear hg2 c6
  go_wp2_with fail
  have rk := Hid.mk (fun W hW => And.intro (own_kept (w' := W) r.out.1 hW (own_ne r.out.1 h.out (by decide))) (r.out.2.imp fun _ _ q => q.step hW (nes_box h.out (by decide) (by decide) (by decide) (by decide))))
  have ck := Hid.mk (fun W hW => And.intro (own_kept (w' := W) c.out.1 hW (own_ne c.out.1 h.out (by decide))) (c.out.2.imp fun _ _ q => q.step hW (nes_box h.out (by decide) (by decide) (by decide) (by decide))))
  refine (c7 _ h.out).mono ?_
  clear h
  rintro x w8 ⟨v, rfl, gs, hO, hE, h, hg2⟩
  obtain ⟨ga, gc, rfl⟩ := own_slice hO
  have g := Hid.mk (And.intro (own_base hO hg.out.size) (hE.imp fun _ _ q => q.base hg.out.size))
  clear hO hE
  replace r := Hid.mk (rk.out _ hg2)
  clear rk
  replace c := Hid.mk (ck.out _ hg2)
  clear ck
  replace X := Hid.mk (X.out.kept hg2 hne)
  replace hg := Hid.mk (hg.out.trans hg2)
  replace h := Hid.mk h
  clear hg2 c7
  have hm : ImgOwn w.heap.size w8 (.slice ra L5.length rc) (.slice ca L6.length cc) (.slice ga L7.length gc) ⟨L5, L6, L7, y1⟩ := ⟨⟨_, r.out⟩, ⟨_, c.out⟩, ⟨_, g.out⟩⟩
  clear r c g
  have hG8 : Gr w8 (w8.alloc (.cells #[.slice ra L5.length rc, .slice ca L6.length cc, .slice ga L7.length gc, .int .i64 y1] 26)) := (Gr.refl w8).alloc _
  have Mb := Box.new w8 #[.slice ra L5.length rc, .slice ca L6.length cc, .slice ga L7.length gc, .int .i64 y1] 26
  have hmk : w8.heap.size ≠ kr := by have := h.out.lt; omega
  have hxm : w.heap.size < w8.heap.size := by have := X.out.lt; omega
  have h8 : RIn (w8.alloc (.cells #[.slice ra L5.length rc, .slice ca L6.length cc, .slice ga L7.length gc, .int .i64 y1] 26)) kr S σ7 := h.out.gr hG8
  have X8 := X.out.gr hG8
  have hm8 := hm.step (grown_of hG8.below none) (ne7_none _)
  have hg8 := hg.out.trans (grown_of hG8.below (some kr))
  have ⟨z0, p0, f0⟩ := h.out.at
  clear h X hm hg hG8
  replace Mb := Hid.mk Mb
  replace h8 := Hid.mk h8
  replace X8 := Hid.mk X8
  replace hm8 := Hid.mk hm8
  replace hg8 := Hid.mk hg8
  replace hxm := Hid.mk hxm
  go_wp2_with fail
  clear z0 p0 f0
  refine wp_world (fun W => RIn W kr S σ7 ∧ Box W w.heap.size #[.slice none 0 0, .slice none 0 0, .slice none 0 0, .int .i64 0] 26 ∧ Box W w8.heap.size #[.slice ra L5.length rc, .slice ca L6.length cc, .slice ga L7.length gc, .int .i64 y1] 26 ∧ ImgOwn w.heap.size W (.slice ra L5.length rc) (.slice ca L6.length cc) (.slice ga L7.length gc) ⟨L5, L6, L7, y1⟩ ∧ w.grownBy W (some kr)) ⟨h8.out, X8.out, Mb.out, hm8.out, hg8.out⟩ ?_
  clear h8 X8 Mb hm8 hg8
  rintro W ⟨h8, X, Mb, hm, hg⟩
  generalize w8.heap.size = km at *
  have hn1 : km ≠ w.heap.size := by have := hxm.out; omega
  have ⟨z0, p0, f0⟩ := h8.at
  have ⟨z1, p1, f1⟩ := X.at
  have ⟨z2, p2, f2⟩ := Mb.at
  replace h8 := Hid.mk h8
  replace X := Hid.mk X
  replace Mb := Hid.mk Mb
  replace hm := Hid.mk hm
  replace hg := Hid.mk hg
  by_cases hl : σ7.i < S.length
  · have hl' : (σ7.i : Int) < S.length := by omega
    obtain rfl := hrs.out.trans (if_pos hl)
    go_quiet (fail)
    go_wp2_with fail
    have hGn := (Gr.refl W).drewN nq
    refine (hF _ (h8.out.gr hGn)).mono ?_
    have hmk2 := ne7_box (h8.out.gr hGn) (by decide)
    rintro x w9 ⟨rfl, h9, hg2⟩
    replace X := Hid.mk ((X.out.gr hGn).kept hg2 hne)
    replace Mb := Hid.mk ((Mb.out.gr hGn).kept hg2 hmk)
    replace hm := Hid.mk ((hm.out.step (grown_of hGn.below none) (ne7_none _)).step hg2 hmk2)
    replace hg := Hid.mk ((hg.out.trans (grown_of hGn.below _)).trans hg2)
    clear h8 z0 p0 f0 z1 p1 f1 z2 p2 f2 hg2 hF hGn hmk2
    have h8 := Hid.mk h9
    clear h9
    have ⟨z0, p0, f0⟩ := h8.out.at
    have ⟨z1, p1, f1⟩ := X.out.at
    have ⟨z2, p2, f2⟩ := Mb.out.at
    go_wp2_with fail
    have b4 : Box (((((w9).setCell ⟨w.heap.size, 0, none⟩ (.slice ra L5.length rc)).setCell ⟨w.heap.size, 1, none⟩ (.slice ca L6.length cc)).setCell ⟨w.heap.size, 2, none⟩ (.slice ga L7.length gc)).setCell ⟨w.heap.size, 3, none⟩ (.int .i64 y1)) w.heap.size #[.slice ra L5.length rc, .slice ca L6.length cc, .slice ga L7.length gc, .int .i64 y1] 26 := Box.setRow X.out [.slice ra L5.length rc, .slice ca L6.length cc, .slice ga L7.length gc, .int .i64 y1] rfl
    have h4 : RIn (((((w9).setCell ⟨w.heap.size, 0, none⟩ (.slice ra L5.length rc)).setCell ⟨w.heap.size, 1, none⟩ (.slice ca L6.length cc)).setCell ⟨w.heap.size, 2, none⟩ (.slice ga L7.length gc)).setCell ⟨w.heap.size, 3, none⟩ (.int .i64 y1)) kr S _ := Box.setRow_other (cs := [.slice ra L5.length rc, .slice ca L6.length cc, .slice ga L7.length gc, .int .i64 y1]) h8.out hne
    have hg4 : w.grownBy (((((w9).setCell ⟨w.heap.size, 0, none⟩ (.slice ra L5.length rc)).setCell ⟨w.heap.size, 1, none⟩ (.slice ca L6.length cc)).setCell ⟨w.heap.size, 2, none⟩ (.slice ga L7.length gc)).setCell ⟨w.heap.size, 3, none⟩ (.int .i64 y1)) (some kr) := grown_row [.slice ra L5.length rc, .slice ca L6.length cc, .slice ga L7.length gc, .int .i64 y1] hg.out (Nat.le_refl _)
    have O4 : ImgOwn w.heap.size (((((w9).setCell ⟨w.heap.size, 0, none⟩ (.slice ra L5.length rc)).setCell ⟨w.heap.size, 1, none⟩ (.slice ca L6.length cc)).setCell ⟨w.heap.size, 2, none⟩ (.slice ga L7.length gc)).setCell ⟨w.heap.size, 3, none⟩ (.int .i64 y1)) (.slice ra L5.length rc) (.slice ca L6.length cc) (.slice ga L7.length gc) ⟨L5, L6, L7, y1⟩ := ImgOwn.row (by decide) [.slice ra L5.length rc, .slice ca L6.length cc, .slice ga L7.length gc, .int .i64 y1] hm.out X.out
    have ⟨_, q4, _⟩ := b4.at
    clear z0 p0 f0 z1 p1 f1 z2 p2 f2 X Mb hg h8 hm b4
    generalize ((((w9).setCell ⟨w.heap.size, 0, none⟩ (.slice ra L5.length rc)).setCell ⟨w.heap.size, 1, none⟩ (.slice ca L6.length cc)).setCell ⟨w.heap.size, 2, none⟩ (.slice ga L7.length gc)).setCell ⟨w.heap.size, 3, none⟩ (.int .i64 y1) = W4 at *
    simp [bodyPost, results, Tryd.results30, go_sem, q4]
    exact ⟨ra, rc, ca, cc, ga, gc, ⟨⟨rfl, rfl⟩, ⟨rfl, rfl⟩, rfl, rfl⟩, O4, h4, hg4⟩
  · have hl' : ¬ (σ7.i : Int) < S.length := by omega
    obtain rfl := hrs.out.trans (if_neg hl)
    go_quiet (fail)
    go_wp2_with fail
    have hGn := (Gr.refl W).drewN nq
    replace X := Hid.mk (X.out.gr hGn)
    replace h8 := Hid.mk (h8.out.gr hGn)
    replace hm := Hid.mk (hm.out.step (grown_of hGn.below none) (ne7_none _))
    replace hg := Hid.mk (hg.out.trans (grown_of hGn.below _))
    clear hGn
    have b4 : Box ((((((W.drewN nq)).setCell ⟨w.heap.size, 0, none⟩ (.slice ra L5.length rc)).setCell ⟨w.heap.size, 1, none⟩ (.slice ca L6.length cc)).setCell ⟨w.heap.size, 2, none⟩ (.slice ga L7.length gc)).setCell ⟨w.heap.size, 3, none⟩ (.int .i64 y1)) w.heap.size #[.slice ra L5.length rc, .slice ca L6.length cc, .slice ga L7.length gc, .int .i64 y1] 26 := Box.setRow X.out [.slice ra L5.length rc, .slice ca L6.length cc, .slice ga L7.length gc, .int .i64 y1] rfl
    have h4 : RIn ((((((W.drewN nq)).setCell ⟨w.heap.size, 0, none⟩ (.slice ra L5.length rc)).setCell ⟨w.heap.size, 1, none⟩ (.slice ca L6.length cc)).setCell ⟨w.heap.size, 2, none⟩ (.slice ga L7.length gc)).setCell ⟨w.heap.size, 3, none⟩ (.int .i64 y1)) kr S _ := Box.setRow_other (cs := [.slice ra L5.length rc, .slice ca L6.length cc, .slice ga L7.length gc, .int .i64 y1]) h8.out hne
    have hg4 : w.grownBy ((((((W.drewN nq)).setCell ⟨w.heap.size, 0, none⟩ (.slice ra L5.length rc)).setCell ⟨w.heap.size, 1, none⟩ (.slice ca L6.length cc)).setCell ⟨w.heap.size, 2, none⟩ (.slice ga L7.length gc)).setCell ⟨w.heap.size, 3, none⟩ (.int .i64 y1)) (some kr) := grown_row [.slice ra L5.length rc, .slice ca L6.length cc, .slice ga L7.length gc, .int .i64 y1] hg.out (Nat.le_refl _)
    have O4 : ImgOwn w.heap.size ((((((W.drewN nq)).setCell ⟨w.heap.size, 0, none⟩ (.slice ra L5.length rc)).setCell ⟨w.heap.size, 1, none⟩ (.slice ca L6.length cc)).setCell ⟨w.heap.size, 2, none⟩ (.slice ga L7.length gc)).setCell ⟨w.heap.size, 3, none⟩ (.int .i64 y1)) (.slice ra L5.length rc) (.slice ca L6.length cc) (.slice ga L7.length gc) ⟨L5, L6, L7, y1⟩ := ImgOwn.row (by decide) [.slice ra L5.length rc, .slice ca L6.length cc, .slice ga L7.length gc, .int .i64 y1] hm.out X.out
    have ⟨_, q4, _⟩ := b4.at
    clear z0 p0 f0 z1 p1 f1 z2 p2 f2 X Mb hg h8 hm b4
    generalize (((((W.drewN nq)).setCell ⟨w.heap.size, 0, none⟩ (.slice ra L5.length rc)).setCell ⟨w.heap.size, 1, none⟩ (.slice ca L6.length cc)).setCell ⟨w.heap.size, 2, none⟩ (.slice ga L7.length gc)).setCell ⟨w.heap.size, 3, none⟩ (.int .i64 y1) = W4 at *
    simp [bodyPost, results, Tryd.results30, go_sem, q4]
    exact ⟨ra, rc, ca, cc, ga, gc, ⟨⟨rfl, rfl⟩, ⟨rfl, rfl⟩, rfl, rfl⟩, O4, h4, hg4⟩
end Go.Proofs.YtcljibdikhpnlaaDoor


/-
  Stage 4, image: Decode of any bytes.
-/
namespace Go.Proofs.YtcljibdikhpnlaaDoor
open Go.RowKit

theorem flatten_get {k : Nat} : ∀ {css : List (List Value)}, (∀ cs ∈ css, cs.length = k) → ∀ (i j : Nat) (cs : List Value), css[i]? = some cs → j < k → css.flatten[i * k + j]? = cs[j]?
  | [], _, i, _, cs, h, _ => by simp at h
  | c :: css, hl, 0, j, cs, h, hj => by
    obtain rfl : c = cs := by simpa using h
    have := hl c (by simp)
    rw [List.flatten_cons, Nat.zero_mul, Nat.zero_add, List.getElem?_append_left (by omega)]
  | c :: css, hl, i + 1, j, cs, h, hj => by
    have hc := hl c (by simp)
    rw [List.flatten_cons, List.getElem?_append_right (by rw [hc, Nat.succ_mul]; omega)]
    have e : (i + 1) * k + j - c.length = i * k + j := by rw [hc, Nat.succ_mul]; omega
    rw [e]
    exact flatten_get (fun x hx => hl x (by simp [hx])) i j cs (by simpa using h) hj
theorem flatMap_get {α : Type} {k : Nat} {vals : α → List Value} (hv : ∀ x, (vals x).length = k) (L : List α) (i j : Nat) (hi : i < L.length) (hj : j < k) : (L.flatMap vals)[i * k + j]? = (vals L[i])[j]? := by
  rw [List.flatMap_def]
  refine flatten_get (k := k) ?_ i j (vals L[i]) (by simp [hi]) hj
  intro cs h
  obtain ⟨x, _, rfl⟩ := List.mem_map.1 h
  exact hv x
theorem own_at {w : World} {base e size n c : Nat} {a : Option Addr} {xs : List Value} (h : w.ownsRow base e size (.slice a n c) n xs) (hn : 0 < n) : ∃ g, a = some ⟨g, 0, none⟩ ∧ base ≤ g ∧ g < w.heap.size := by
  have hb := own_block h
  rcases h.2 with ⟨e1, h0⟩ | ⟨g, cap, cur, e1, hbg, _⟩
  · omega
  · have e2 : a = some ⟨g, 0, none⟩ := by cases e1; rfl
    subst e2
    exact ⟨g, rfl, hb g rfl⟩
theorem own_cell {w : World} {base e size n c : Nat} {a : Option Addr} {xs : List Value} (h : w.ownsRow base e size (.slice a n c) n xs) {g : Nat} (ha : a = some ⟨g, 0, none⟩) (j : Nat) (v : Value) (hj : xs[j]? = some v) : w.cell? ⟨g, j, none⟩ = some v := by
  subst ha
  exact row_cell h j v hj
theorem own_fin {α : Type} {k : Nat} {vals : α → List Value} (hv : ∀ x, (vals x).length = k) {w : World} {base e c : Nat} {a : Option Addr} {L : List α} (h : w.ownsRow base e k (.slice a L.length c) L.length (L.flatMap vals)) : FIn k vals w.heap.size w a L := fun i hi => by
  obtain ⟨g, rfl, _, hg⟩ := own_at h (by omega)
  refine ⟨g, 0, rfl, hg, hg, fun j hj => ?_⟩
  have e := flatMap_get hv L i j hi hj
  have hs : j < (vals L[i]).length := by rw [hv]; exact hj
  rw [List.getElem?_eq_getElem hs] at e ⊢
  rw [Nat.zero_add]
  exact own_cell h rfl _ _ e
theorem slot_len (x : PSlot) : x.vals.length = 8 := rfl
theorem root_len (x : PRoot) : x.vals.length = 6 := rfl
theorem typ_len (x : PTyp) : x.vals.length = 7 := rfl
theorem own_lin {w : World} {base c : Nat} {a : Option Addr} {L : List Ins} (h : LOwn w base (.slice a L.length c) L) : LIn w.heap.size w a L := fun i hi => by
  obtain ⟨g, rfl, _, hg⟩ := own_at h (by omega)
  have q := fun j (hj : j < 5) => flat_get L i j hi hj
  refine ⟨g, 0, rfl, hg, hg, ?_⟩
  have e0 := q 0 (by omega); have e1 := q 1 (by omega); have e2 := q 2 (by omega); have e3 := q 3 (by omega); have e4 := q 4 (by omega)
  have r : ∀ j v, (flat L)[i * 5 + j]? = some v → w.cell? ⟨g, 0 + i * 5 + j, none⟩ = some v := fun j v hv => by
    rw [Nat.zero_add]; exact own_cell h rfl _ _ hv
  exact ⟨r 0 _ e0, r 1 _ e1, r 2 _ e2, r 3 _ e3, r 4 _ e4⟩
theorem ImgOwn.into {lo : Nat} {w : World} {m : PImg} {ra ca ga : Option Addr} {rc cc gc : Nat} (h : ImgOwn lo w (.slice ra m.regs.length rc) (.slice ca m.comps.length cc) (.slice ga m.gates.length gc) m) : ImgIn w.heap.size w ra ca ga m := by
  obtain ⟨⟨a, a1, a2⟩, ⟨b, b1, b2⟩, ⟨c, c1, c2⟩⟩ := h
  refine ⟨fun i hi => ?_, fun i hi => ?_, fun i hi => ?_⟩
  · obtain ⟨g, rfl, _, hg⟩ := own_at a1 (by omega)
    obtain ⟨cs, e, sa, sc, rfl, hs⟩ := a2.get i hi
    have hl : ∀ cs ∈ a, cs.length = 4 := fun cs hc => by
      obtain ⟨k, hk, rfl⟩ := List.mem_iff_getElem.1 hc
      obtain ⟨cs', e', sa, sc, rfl, _⟩ := a2.get k (by rw [← a2.len]; exact hk)
      rw [List.getElem?_eq_getElem hk] at e'
      rw [Option.some.inj e']
      rfl
    have r : ∀ j v, j < 4 → [Value.int .u64 m.regs[i].b, .int .u64 m.regs[i].n, .string (str m.regs[i].data), .slice sa m.regs[i].slots.length sc][j]? = some v → w.cell? ⟨g, 0 + i * 4 + j, none⟩ = some v := fun j v hj hv => by
      rw [Nat.zero_add]
      exact own_cell a1 rfl _ _ ((flatten_get hl i j _ e hj).trans hv)
    exact ⟨g, 0, sa, sc, rfl, hg, hg, r 0 _ (by omega) rfl, r 1 _ (by omega) rfl, r 2 _ (by omega) rfl, r 3 _ (by omega) rfl, own_fin slot_len hs⟩
  · obtain ⟨g, rfl, _, hg⟩ := own_at b1 (by omega)
    obtain ⟨cs, e, ra', rc', ka, kc, rfl, hs, hs2⟩ := b2.get i hi
    have hl : ∀ cs ∈ b, cs.length = 2 := fun cs hc => by
      obtain ⟨k, hk, rfl⟩ := List.mem_iff_getElem.1 hc
      obtain ⟨cs', e', _, _, _, _, rfl, _, _⟩ := b2.get k (by rw [← b2.len]; exact hk)
      rw [List.getElem?_eq_getElem hk] at e'
      rw [Option.some.inj e']
      rfl
    have r : ∀ j v, j < 2 → [Value.slice ra' m.comps[i].roots.length rc', .slice ka m.comps[i].code.length kc][j]? = some v → w.cell? ⟨g, 0 + i * 2 + j, none⟩ = some v := fun j v hj hv => by
      rw [Nat.zero_add]
      exact own_cell b1 rfl _ _ ((flatten_get hl i j _ e hj).trans hv)
    exact ⟨g, 0, ra', rc', ka, kc, rfl, hg, hg, r 0 _ (by omega) rfl, r 1 _ (by omega) rfl, own_fin root_len hs, own_lin hs2⟩
  · obtain ⟨g, rfl, _, hg⟩ := own_at c1 (by omega)
    obtain ⟨cs, e, xa, xc, ya, yc, rfl, hs, hs2⟩ := c2.get i hi
    have hl : ∀ cs ∈ c, cs.length = 4 := fun cs hc => by
      obtain ⟨k, hk, rfl⟩ := List.mem_iff_getElem.1 hc
      obtain ⟨cs', e', _, _, _, _, rfl, _, _⟩ := c2.get k (by rw [← c2.len]; exact hk)
      rw [List.getElem?_eq_getElem hk] at e'
      rw [Option.some.inj e']
      rfl
    have r : ∀ j v, j < 4 → [Value.int .i64 m.gates[i].c, .int .i64 m.gates[i].e, .slice xa m.gates[i].args.length xc, .slice ya m.gates[i].res.length yc][j]? = some v → w.cell? ⟨g, 0 + i * 4 + j, none⟩ = some v := fun j v hj hv => by
      rw [Nat.zero_add]
      exact own_cell c1 rfl _ _ ((flatten_get hl i j _ e hj).trans hv)
    exact ⟨g, 0, xa, xc, ya, yc, rfl, hg, hg, r 0 _ (by omega) rfl, r 1 _ (by omega) rfl, r 2 _ (by omega) rfl, r 3 _ (by omega) rfl, own_fin typ_len hs, own_fin typ_len hs2⟩
theorem kindP_rng (S : List UInt8) (σ : RS) : (kindP S σ).1.Rng := by
  unfold kindP
  split
  · simp [zTyp, PTyp.Rng, W64, B8, J64]
  · split
    · have a := num8 S (takeS S 1 σ)
      have b := num8 S (takeS S 8 (takeS S 1 σ))
      have c := num8 S (takeS S 8 (takeS S 8 (takeS S 1 σ)))
      have d := num8 S (takeS S 8 (takeS S 8 (takeS S 8 (takeS S 1 σ))))
      have e := num1 S (takeS S 8 (takeS S 8 (takeS S 8 (takeS S 8 (takeS S 1 σ)))))
      have f := num1 S (takeS S 1 (takeS S 8 (takeS S 8 (takeS S 8 (takeS S 8 (takeS S 1 σ))))))
      exact ⟨a, b, c, d, e, by show J64 (numV S 1 _); unfold J64; omega⟩
    · simp [zTyp, PTyp.Rng, W64, B8, J64]
theorem slotP_rng (S : List UInt8) (σ : RS) : (slotP S σ).1.Rng := ⟨kindP_rng S σ, num8 S _⟩
theorem rootP_rng (S : List UInt8) (σ : RS) : (rootP S σ).1.Rng := by
  have a := num1 S σ
  have f := num1 S (takeS S 1 (takeS S 8 (takeS S 8 (takeS S 8 (takeS S 1 σ)))))
  exact ⟨by show J64 (numV S 1 _); unfold J64; omega, num8 S _, num8 S _, num8 S _, num1 S _, by show J64 (numV S 1 _); unfold J64; omega⟩
theorem regP_rng (S : List UInt8) (σ : RS) : (regP S σ).1.Rng := by
  have a := num4 S σ
  have b := num4 S (takeS S 4 σ)
  have c := num2 S (takeS S 4 (takeS S 4 σ))
  have d := num2 S (regS S σ)
  have hk : regK S σ ≤ 65535 := by unfold regK; omega
  have hd : regD S σ ≤ 65535 := by unfold regD; omega
  unfold regP
  split
  · have l := listF_len (f := slotP S) (regK S σ) (regS S σ) []
    refine ⟨by show W64 (numV S 4 _); unfold W64; omega, by show W64 (numV S 4 _); unfold W64; omega, by show ([] : List UInt8).length ≤ maxG; simp, by simp only [List.length_nil] at l; show (listF (slotP S) (regK S σ) (regS S σ) []).1.length ≤ maxG; unfold maxG; omega, listF_all (fun σ => slotP_rng S σ) _ _ _ (by simp)⟩
  · have l := takeV_len S (regD S σ) (takeS S 2 (regS S σ))
    refine ⟨by show W64 (numV S 4 _); unfold W64; omega, by show W64 (numV S 4 _); unfold W64; omega, by show (takeV S (regD S σ) (takeS S 2 (regS S σ))).length ≤ maxG; unfold maxG; omega, by show ([] : List PSlot).length ≤ maxG; simp, by simp⟩
theorem decA_rng {T : List UInt8} (hT : T.length ≤ 1000000) : (decA T).1.length ≤ 1000000 ∧ OpsIn (decA T).1 := by
  by_cases h : (decA T).2.1 = 0
  · obtain ⟨L, e, _, ho, hc⟩ := decA_ok h
    rw [e]
    refine ⟨?_, ho⟩
    have := code_length L
    rw [hc] at this
    show L.length ≤ 1000000
    omega
  · rw [(decA_bad h).1]
    exact ⟨by simp, fun k hk => by simp at hk⟩
theorem compP_rng (S : List UInt8) (σ : RS) (hS : S.length ≤ 1000000) : (compP S σ).1.Rng := by
  have a := num1 S σ
  have l := listF_len (f := rootP S) (numV S 1 σ).toNat (takeS S 1 σ) []
  have hw := whole_le S (numV S 2 (rootsP S σ).2).toNat (takeS S 2 (rootsP S σ).2)
  have hv := takeV_len S (wholeN S (numV S 2 (rootsP S σ).2).toNat (takeS S 2 (rootsP S σ).2) * 8) (takeS S 2 (rootsP S σ).2)
  have hd := decA_rng (T := takeV S (wholeN S (numV S 2 (rootsP S σ).2).toNat (takeS S 2 (rootsP S σ).2) * 8) (takeS S 2 (rootsP S σ).2)) (by omega)
  exact ⟨by simp only [List.length_nil] at l; show (listF (rootP S) (numV S 1 σ).toNat (takeS S 1 σ) []).1.length ≤ maxG; unfold maxG; omega, Nat.le_trans hd.1 (by unfold maxI; omega), hd.2, listF_all (fun σ => rootP_rng S σ) _ _ _ (by simp)⟩
theorem kindsP_rng (S : List UInt8) (σ : RS) : (kindsP S σ).1.length ≤ maxG ∧ ∀ k ∈ (kindsP S σ).1, k.Rng := by
  have a := num1 S σ
  have l := listF_len (f := kindP S) (numV S 1 σ).toNat (takeS S 1 σ) []
  exact ⟨by simp only [List.length_nil] at l; show (listF (kindP S) (numV S 1 σ).toNat (takeS S 1 σ) []).1.length ≤ maxG; unfold maxG; omega, listF_all (fun σ => kindP_rng S σ) _ _ _ (by simp)⟩
theorem gateP_rng (S : List UInt8) (σ : RS) : (gateP S σ).1.Rng := by
  have a := num1 S σ
  have b := num2 S (takeS S 1 σ)
  have c := kindsP_rng S (gateS S σ)
  have d := kindsP_rng S (kindsP S (gateS S σ)).2
  exact ⟨by show J64 (numV S 1 _); unfold J64; omega, by show J64 (numV S 2 _); unfold J64; omega, c.1, d.1, c.2, d.2⟩
theorem imgP_rng (S : List UInt8) (hS : S.length ≤ 1000000) : (imgP S).1.Rng := by
  unfold imgP
  split
  · have a := num1 S (h1S S)
    have b := num1 S (h2S S)
    have c := num1 S (h3S S)
    have d := num1 S h0S
    have l1 := listF_len (f := regP S) (numV S 1 (h1S S)).toNat (h4S S) []
    have l2 := listF_len (f := compP S) (numV S 1 (h2S S)).toNat (regsP S).2 []
    have l3 := listF_len (f := gateP S) (numV S 1 (h3S S)).toNat (compsP S).2 []
    simp only [List.length_nil] at l1 l2 l3
    refine ⟨⟨?_, listF_all (fun σ => regP_rng S σ) _ _ _ (by simp)⟩, ⟨?_, listF_all (fun σ => compP_rng S σ hS) _ _ _ (by simp)⟩, ⟨?_, listF_all (fun σ => gateP_rng S σ) _ _ _ (by simp)⟩, by show J64 (numV S 1 _); unfold J64; omega⟩
    · show (listF (regP S) (numV S 1 (h1S S)).toNat (h4S S) []).1.length ≤ maxG
      unfold maxG; omega
    · show (listF (compP S) (numV S 1 (h2S S)).toNat (regsP S).2 []).1.length ≤ maxG
      unfold maxG; omega
    · show (listF (gateP S) (numV S 1 (h3S S)).toNat (compsP S).2 []).1.length ≤ maxG
      unfold maxG; omega
  · exact ⟨⟨by simp [zImg], by simp [zImg]⟩, ⟨by simp [zImg], by simp [zImg]⟩, ⟨by simp [zImg], by simp [zImg]⟩, by simp [zImg, J64]⟩
theorem zOwn (lo : Nat) (w : World) : ImgOwn lo w (.slice none 0 0) (.slice none 0 0) (.slice none 0 0) zImg := ⟨⟨[], ⟨rfl, .inl ⟨rfl, rfl⟩⟩, trivial⟩, ⟨[], ⟨rfl, .inl ⟨rfl, rfl⟩⟩, trivial⟩, ⟨[], ⟨rfl, .inl ⟨rfl, rfl⟩⟩, trivial⟩⟩
/-- What Decode's answer is, of a world. -/
def DecIs (w w' : World) (d : PImg × Int × Int) (x : Ending) : Prop := ∃ ra rc ca cc ga gc, x = .returned (.tuple #[.agg #[.slice ra d.1.regs.length rc, .slice ca d.1.comps.length cc, .slice ga d.1.gates.length gc, .int .i64 d.1.depth], .int .i64 d.2.1, .int .i64 d.2.2]) ∧ ImgOwn w.heap.size w' (.slice ra d.1.regs.length rc) (.slice ca d.1.comps.length cc) (.slice ga d.1.gates.length gc) d.1 ∧ Below w.heap.size w w'

set_option maxRecDepth 10000 in
set_option maxHeartbeats 4000000 in
theorem imgDecode_any (S : List UInt8) (w : World) (ht : TabIn w) :
    Calls Tryd.prog 13 #[.string (str S)] w fun x w' => DecIs w w' (decI S) x := by
  have ss := str_size S
  by_cases hl : 40000 < S.length
  · have r1 : decI S = (zImg, 42, 0) := if_pos hl
    have hl' : (40000 : Int) < S.length := by omega
    rw [r1]
    have hBe := Hid.mk ((Gr.refl w).alloc (.cells #[.slice none 0 0, .slice none 0 0, .slice none 0 0, .int .i64 0] 26)).below
    have X := Box.new w #[.slice none 0 0, .slice none 0 0, .slice none 0 0, .int .i64 0] 26
    have ⟨z0, p0, f0⟩ := X.at
    clear r1 X
    go_enter Tryd.func13, Tryd.ntmps13
    go_wp2_with fail
    simp [bodyPost, results, Tryd.results13, go_sem, p0]
    exact ⟨none, 0, none, 0, none, 0, rfl, zOwn _ _, hBe.out⟩
  have hl' : ¬ (40000 : Int) < S.length := by omega
  have r1 : decI S = if (imgP S).2.e = 0 then (if (imgP S).1.right = 0 then ((imgP S).1, 0, 0) else (zImg, (imgP S).1.right, 0)) else (zImg, (imgP S).2.e, (imgP S).2.p) := if_neg hl
  rw [r1]
  have hi := fun kr W h0 h1 h2 => rimage_any S kr W h0 h1 h2 (by omega)
  have hr := imgP_rng S (by omega)
  have h2 := ht.size
  clear r1
  generalize imgP S = q at *
  obtain ⟨m, τ⟩ := q
  simp only at hi hr ⊢
  have hR := fun ra ca ga rc cc gc W h0 h1 => imgRight_any m ra ca ga rc cc gc W h0 h1 hr
  by_cases he : τ.e = 0
  case neg =>
    rw [if_neg he]
    have hG0 : Gr w ((w.alloc (.cells #[.slice none 0 0, .slice none 0 0, .slice none 0 0, .int .i64 0] 26)).alloc (.cells #[.string (str S), .int .i64 0, .int .i64 0, .int .i64 0] 81)) := ((Gr.refl w).alloc _).alloc _
    have X : Box ((w.alloc (.cells #[.slice none 0 0, .slice none 0 0, .slice none 0 0, .int .i64 0] 26)).alloc (.cells #[.string (str S), .int .i64 0, .int .i64 0, .int .i64 0] 81)) w.heap.size #[.slice none 0 0, .slice none 0 0, .slice none 0 0, .int .i64 0] 26 := (Box.new w _ _).alloc _
    have ht0 := ht.gr hG0
    replace hG0 := Hid.mk hG0
    replace X := Hid.mk X
    replace ht0 := Hid.mk ht0
    replace ht := Hid.mk ht
    replace hr := Hid.mk hr
    go_enter Tryd.func13, Tryd.ntmps13
    go_wp2_with fail
    refine (hi (w.heap.size + 1) _ ht0.out (by omega) (Box.next _ _ _ _)).mono ?_
    rintro x w1 ⟨ra, rc, ca, cc, ga, gc, rfl, hO, h1, hg⟩
    replace X := Hid.mk (X.out.kept hg (by omega))
    have hBe := Hid.mk (hG0.out.below.trans (Below.of_grown hg (gr_size hG0.out) (fun q e => by cases e; omega)))
    replace hO := hO.base (gr_size hG0.out)
    have hT : TabIn w1 := ht.out.below hBe.out h2
    have hG1 : Gr w1 (w1.alloc (.cells #[.slice ra m.regs.length rc, .slice ca m.comps.length cc, .slice ga m.gates.length gc, .int .i64 m.depth] 26)) := (Gr.refl w1).alloc _
    have hO1 := hO.step (grown_of hG1.below none) (ne7_none _)
    have X1 := X.out.gr hG1
    have hB1 := hBe.out.trans (hG1.below.mono hBe.out.size)
    have ⟨z0, p0, f0⟩ := (h1.gr hG1).at
    have c1 := hR ra ca ga rc cc gc (w1.alloc (.cells #[.slice ra m.regs.length rc, .slice ca m.comps.length cc, .slice ga m.gates.length gc, .int .i64 m.depth] 26)) (hT.gr hG1) hO1.into
    clear hi hR hG0 hG1 hg hO hBe X
    have X := Hid.mk X1
    have hBe := Hid.mk hB1
    replace hO1 := Hid.mk hO1
    replace h1 := Hid.mk h1
    clear X1 hB1
    have he' : (τ.e != 0) = true := by simpa using he
    replace he := Hid.mk he
    have ⟨z1, p1, f1⟩ := X.out.at
    clear c1
    go_wp2_with fail
    clear z0 p0 f0 z1 p1 f1
    refine wp_world (fun W => RIn W (w.heap.size + 1) S τ ∧ Box W w.heap.size #[.slice none 0 0, .slice none 0 0, .slice none 0 0, .int .i64 0] 26 ∧ Below w.heap.size w W) ⟨h1.out.alloc _, X.out, hBe.out⟩ ?_
    clear h1 X hBe hO1 hT ht0
    rintro W ⟨h1, X, hBe⟩
    have ⟨z0, p0, f0⟩ := h1.at
    have ⟨z1, p1, f1⟩ := X.at
    replace h1 := Hid.mk h1
    replace X := Hid.mk X
    replace hBe := Hid.mk hBe
    go_region
    go_wp2_with fail
    have b4 : Box (((((W).setCell ⟨w.heap.size, 0, none⟩ (.slice none 0 0)).setCell ⟨w.heap.size, 1, none⟩ (.slice none 0 0)).setCell ⟨w.heap.size, 2, none⟩ (.slice none 0 0)).setCell ⟨w.heap.size, 3, none⟩ (.int .i64 0)) w.heap.size #[.slice none 0 0, .slice none 0 0, .slice none 0 0, .int .i64 0] 26 := Box.setRow X.out [.slice none 0 0, .slice none 0 0, .slice none 0 0, .int .i64 0] rfl
    have hB4 : Below w.heap.size w (((((W).setCell ⟨w.heap.size, 0, none⟩ (.slice none 0 0)).setCell ⟨w.heap.size, 1, none⟩ (.slice none 0 0)).setCell ⟨w.heap.size, 2, none⟩ (.slice none 0 0)).setCell ⟨w.heap.size, 3, none⟩ (.int .i64 0)) := ((((hBe.out.setCell (p := ⟨w.heap.size, 0, none⟩) (Nat.le_refl _) (.slice none 0 0)).setCell (p := ⟨w.heap.size, 1, none⟩) (Nat.le_refl _) (.slice none 0 0)).setCell (p := ⟨w.heap.size, 2, none⟩) (Nat.le_refl _) (.slice none 0 0)).setCell (p := ⟨w.heap.size, 3, none⟩) (Nat.le_refl _) (.int .i64 0))
    have ⟨_, q4, _⟩ := b4.at
    clear b4
    generalize ((((W).setCell ⟨w.heap.size, 0, none⟩ (.slice none 0 0)).setCell ⟨w.heap.size, 1, none⟩ (.slice none 0 0)).setCell ⟨w.heap.size, 2, none⟩ (.slice none 0 0)).setCell ⟨w.heap.size, 3, none⟩ (.int .i64 0) = W4 at *
    simp [bodyPost, results, Tryd.results13, go_sem, q4]
    exact ⟨none, 0, none, 0, none, 0, rfl, zOwn _ _, Below.drew hB4⟩
  rw [if_pos he]
  by_cases hb : m.right = 0
  case neg =>
    rw [if_neg hb]
    have hG0 : Gr w ((w.alloc (.cells #[.slice none 0 0, .slice none 0 0, .slice none 0 0, .int .i64 0] 26)).alloc (.cells #[.string (str S), .int .i64 0, .int .i64 0, .int .i64 0] 81)) := ((Gr.refl w).alloc _).alloc _
    have X : Box ((w.alloc (.cells #[.slice none 0 0, .slice none 0 0, .slice none 0 0, .int .i64 0] 26)).alloc (.cells #[.string (str S), .int .i64 0, .int .i64 0, .int .i64 0] 81)) w.heap.size #[.slice none 0 0, .slice none 0 0, .slice none 0 0, .int .i64 0] 26 := (Box.new w _ _).alloc _
    have ht0 := ht.gr hG0
    replace hG0 := Hid.mk hG0
    replace X := Hid.mk X
    replace ht0 := Hid.mk ht0
    replace ht := Hid.mk ht
    replace hr := Hid.mk hr
    go_enter Tryd.func13, Tryd.ntmps13
    go_wp2_with fail
    refine (hi (w.heap.size + 1) _ ht0.out (by omega) (Box.next _ _ _ _)).mono ?_
    rintro x w1 ⟨ra, rc, ca, cc, ga, gc, rfl, hO, h1, hg⟩
    replace X := Hid.mk (X.out.kept hg (by omega))
    have hBe := Hid.mk (hG0.out.below.trans (Below.of_grown hg (gr_size hG0.out) (fun q e => by cases e; omega)))
    replace hO := hO.base (gr_size hG0.out)
    have hT : TabIn w1 := ht.out.below hBe.out h2
    have hG1 : Gr w1 (w1.alloc (.cells #[.slice ra m.regs.length rc, .slice ca m.comps.length cc, .slice ga m.gates.length gc, .int .i64 m.depth] 26)) := (Gr.refl w1).alloc _
    have hO1 := hO.step (grown_of hG1.below none) (ne7_none _)
    have X1 := X.out.gr hG1
    have hB1 := hBe.out.trans (hG1.below.mono hBe.out.size)
    have ⟨z0, p0, f0⟩ := (h1.gr hG1).at
    have c1 := hR ra ca ga rc cc gc (w1.alloc (.cells #[.slice ra m.regs.length rc, .slice ca m.comps.length cc, .slice ga m.gates.length gc, .int .i64 m.depth] 26)) (hT.gr hG1) hO1.into
    clear hi hR hG0 hG1 hg hO hBe X
    have X := Hid.mk X1
    have hBe := Hid.mk hB1
    replace hO1 := Hid.mk hO1
    replace h1 := Hid.mk h1
    clear X1 hB1
    have he' : (τ.e != 0) = false := by simpa using he
    replace he := Hid.mk he
    have Mb := Hid.mk (Box.new w1 #[.slice ra m.regs.length rc, .slice ca m.comps.length cc, .slice ga m.gates.length gc, .int .i64 m.depth] 26)
    go_wp2_with fail
    refine c1.mono ?_
    rintro x w2 ⟨rfl, hG2⟩
    replace Mb := Hid.mk (Mb.out.gr hG2)
    replace X := Hid.mk (X.out.gr hG2)
    replace hO1 := Hid.mk (hO1.out.step (grown_of hG2.below none) (ne7_none _))
    replace hBe := Hid.mk (hBe.out.trans (hG2.below.mono hBe.out.size))
    have ⟨z1, p1, f1⟩ := X.out.at
    have ⟨z2, p2, f2⟩ := Mb.out.at
    clear z0 p0 f0 hG2 c1
    have hb' : (m.right != 0) = true := by simpa using hb
    replace hb := Hid.mk hb
    go_wp2_with fail
    have b4 : Box (((((w2).setCell ⟨w.heap.size, 0, none⟩ (.slice none 0 0)).setCell ⟨w.heap.size, 1, none⟩ (.slice none 0 0)).setCell ⟨w.heap.size, 2, none⟩ (.slice none 0 0)).setCell ⟨w.heap.size, 3, none⟩ (.int .i64 0)) w.heap.size #[.slice none 0 0, .slice none 0 0, .slice none 0 0, .int .i64 0] 26 := Box.setRow X.out [.slice none 0 0, .slice none 0 0, .slice none 0 0, .int .i64 0] rfl
    have hB4 : Below w.heap.size w (((((w2).setCell ⟨w.heap.size, 0, none⟩ (.slice none 0 0)).setCell ⟨w.heap.size, 1, none⟩ (.slice none 0 0)).setCell ⟨w.heap.size, 2, none⟩ (.slice none 0 0)).setCell ⟨w.heap.size, 3, none⟩ (.int .i64 0)) := ((((hBe.out.setCell (p := ⟨w.heap.size, 0, none⟩) (Nat.le_refl _) (.slice none 0 0)).setCell (p := ⟨w.heap.size, 1, none⟩) (Nat.le_refl _) (.slice none 0 0)).setCell (p := ⟨w.heap.size, 2, none⟩) (Nat.le_refl _) (.slice none 0 0)).setCell (p := ⟨w.heap.size, 3, none⟩) (Nat.le_refl _) (.int .i64 0))
    have ⟨_, q4, _⟩ := b4.at
    clear b4
    generalize ((((w2).setCell ⟨w.heap.size, 0, none⟩ (.slice none 0 0)).setCell ⟨w.heap.size, 1, none⟩ (.slice none 0 0)).setCell ⟨w.heap.size, 2, none⟩ (.slice none 0 0)).setCell ⟨w.heap.size, 3, none⟩ (.int .i64 0) = W4 at *
    simp [bodyPost, results, Tryd.results13, go_sem, q4]
    exact ⟨none, 0, none, 0, none, 0, rfl, zOwn _ _, hB4⟩
  rw [if_pos hb]
  have hG0 : Gr w ((w.alloc (.cells #[.slice none 0 0, .slice none 0 0, .slice none 0 0, .int .i64 0] 26)).alloc (.cells #[.string (str S), .int .i64 0, .int .i64 0, .int .i64 0] 81)) := ((Gr.refl w).alloc _).alloc _
  have X : Box ((w.alloc (.cells #[.slice none 0 0, .slice none 0 0, .slice none 0 0, .int .i64 0] 26)).alloc (.cells #[.string (str S), .int .i64 0, .int .i64 0, .int .i64 0] 81)) w.heap.size #[.slice none 0 0, .slice none 0 0, .slice none 0 0, .int .i64 0] 26 := (Box.new w _ _).alloc _
  have ht0 := ht.gr hG0
  replace hG0 := Hid.mk hG0
  replace X := Hid.mk X
  replace ht0 := Hid.mk ht0
  replace ht := Hid.mk ht
  replace hr := Hid.mk hr
  go_enter Tryd.func13, Tryd.ntmps13
  go_wp2_with fail
  refine (hi (w.heap.size + 1) _ ht0.out (by omega) (Box.next _ _ _ _)).mono ?_
  rintro x w1 ⟨ra, rc, ca, cc, ga, gc, rfl, hO, h1, hg⟩
  replace X := Hid.mk (X.out.kept hg (by omega))
  have hBe := Hid.mk (hG0.out.below.trans (Below.of_grown hg (gr_size hG0.out) (fun q e => by cases e; omega)))
  replace hO := hO.base (gr_size hG0.out)
  have hT : TabIn w1 := ht.out.below hBe.out h2
  have hG1 : Gr w1 (w1.alloc (.cells #[.slice ra m.regs.length rc, .slice ca m.comps.length cc, .slice ga m.gates.length gc, .int .i64 m.depth] 26)) := (Gr.refl w1).alloc _
  have hO1 := hO.step (grown_of hG1.below none) (ne7_none _)
  have X1 := X.out.gr hG1
  have hB1 := hBe.out.trans (hG1.below.mono hBe.out.size)
  have ⟨z0, p0, f0⟩ := (h1.gr hG1).at
  have c1 := hR ra ca ga rc cc gc (w1.alloc (.cells #[.slice ra m.regs.length rc, .slice ca m.comps.length cc, .slice ga m.gates.length gc, .int .i64 m.depth] 26)) (hT.gr hG1) hO1.into
  clear hi hR hG0 hG1 hg hO hBe X
  have X := Hid.mk X1
  have hBe := Hid.mk hB1
  replace hO1 := Hid.mk hO1
  replace h1 := Hid.mk h1
  clear X1 hB1
  have he' : (τ.e != 0) = false := by simpa using he
  replace he := Hid.mk he
  have Mb := Hid.mk (Box.new w1 #[.slice ra m.regs.length rc, .slice ca m.comps.length cc, .slice ga m.gates.length gc, .int .i64 m.depth] 26)
  go_wp2_with fail
  refine c1.mono ?_
  rintro x w2 ⟨rfl, hG2⟩
  replace Mb := Hid.mk (Mb.out.gr hG2)
  replace X := Hid.mk (X.out.gr hG2)
  replace hO1 := Hid.mk (hO1.out.step (grown_of hG2.below none) (ne7_none _))
  replace hBe := Hid.mk (hBe.out.trans (hG2.below.mono hBe.out.size))
  have ⟨z1, p1, f1⟩ := X.out.at
  have ⟨z2, p2, f2⟩ := Mb.out.at
  clear z0 p0 f0 hG2 c1
  have hb' : (m.right != 0) = false := by simpa using hb
  replace hb := Hid.mk hb
  go_wp2_with fail
  have b4 : Box (((((w2).setCell ⟨w.heap.size, 0, none⟩ (.slice ra m.regs.length rc)).setCell ⟨w.heap.size, 1, none⟩ (.slice ca m.comps.length cc)).setCell ⟨w.heap.size, 2, none⟩ (.slice ga m.gates.length gc)).setCell ⟨w.heap.size, 3, none⟩ (.int .i64 m.depth)) w.heap.size #[.slice ra m.regs.length rc, .slice ca m.comps.length cc, .slice ga m.gates.length gc, .int .i64 m.depth] 26 := Box.setRow X.out [.slice ra m.regs.length rc, .slice ca m.comps.length cc, .slice ga m.gates.length gc, .int .i64 m.depth] rfl
  have hB4 : Below w.heap.size w (((((w2).setCell ⟨w.heap.size, 0, none⟩ (.slice ra m.regs.length rc)).setCell ⟨w.heap.size, 1, none⟩ (.slice ca m.comps.length cc)).setCell ⟨w.heap.size, 2, none⟩ (.slice ga m.gates.length gc)).setCell ⟨w.heap.size, 3, none⟩ (.int .i64 m.depth)) := ((((hBe.out.setCell (p := ⟨w.heap.size, 0, none⟩) (Nat.le_refl _) (.slice ra m.regs.length rc)).setCell (p := ⟨w.heap.size, 1, none⟩) (Nat.le_refl _) (.slice ca m.comps.length cc)).setCell (p := ⟨w.heap.size, 2, none⟩) (Nat.le_refl _) (.slice ga m.gates.length gc)).setCell (p := ⟨w.heap.size, 3, none⟩) (Nat.le_refl _) (.int .i64 m.depth))
  have O4 : ImgOwn w.heap.size (((((w2).setCell ⟨w.heap.size, 0, none⟩ (.slice ra m.regs.length rc)).setCell ⟨w.heap.size, 1, none⟩ (.slice ca m.comps.length cc)).setCell ⟨w.heap.size, 2, none⟩ (.slice ga m.gates.length gc)).setCell ⟨w.heap.size, 3, none⟩ (.int .i64 m.depth)) (.slice ra m.regs.length rc) (.slice ca m.comps.length cc) (.slice ga m.gates.length gc) m := ImgOwn.row (by decide) [.slice ra m.regs.length rc, .slice ca m.comps.length cc, .slice ga m.gates.length gc, .int .i64 m.depth] hO1.out X.out
  have ⟨_, q4, _⟩ := b4.at
  clear z1 p1 f1 z2 p2 f2 X Mb hBe hO1 b4
  generalize ((((w2).setCell ⟨w.heap.size, 0, none⟩ (.slice ra m.regs.length rc)).setCell ⟨w.heap.size, 1, none⟩ (.slice ca m.comps.length cc)).setCell ⟨w.heap.size, 2, none⟩ (.slice ga m.gates.length gc)).setCell ⟨w.heap.size, 3, none⟩ (.int .i64 m.depth) = W4 at *
  simp [bodyPost, results, Tryd.results13, go_sem, q4]
  exact ⟨ra, rc, ca, cc, ga, gc, rfl, O4, hB4⟩
end Go.Proofs.YtcljibdikhpnlaaDoor
