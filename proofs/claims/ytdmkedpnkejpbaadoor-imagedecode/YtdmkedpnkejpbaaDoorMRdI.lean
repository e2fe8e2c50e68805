import Derived.Test.YtdmkedpnkejpbaaDoorMRdN
import Derived.Test.YtdmkedpnkejpbaaDoorP19
/-
  Stage 4, image: the reader's image.
-/
namespace Go.Proofs.YtdmkedpnkejpbaaDoor
open Go.RowKit

theorem prefix_take {M S : List UInt8} : M <+: S ↔ M.length ≤ S.length ∧ S.take M.length = M := by
  constructor
  · rintro ⟨t, rfl⟩
    simp
  · rintro ⟨_, h⟩
    exact ⟨S.drop M.length, by have := List.take_append_drop M.length S; rw [h] at this; exact this⟩
def preB (S : List UInt8) : Bool := decide (magicB <+: S)
set_option maxHeartbeats 400000 in
theorem litePrefix_any (S : List UInt8) (w : World) :
    Calls Tryd.prog 50 #[.string (str S), .string (str magicB)] w fun x w' => x = .returned (.bool (preB S)) ∧ w = w' := by
  have s1 := str_size S
  have s2 : (str magicB).size = 6 := rfl
  by_cases hl : 6 ≤ S.length
  · have he := extract_any S 0 6
    have hl' : (6 : Int) ≤ S.length := by omega
    by_cases hp : S.take 6 = magicB
    · have r : preB S = true := by unfold preB; rw [decide_eq_true_eq, prefix_take]; exact ⟨hl, hp⟩
      have e : ((str S).extract 0 6).toList = (str magicB).toList := by rw [he]; congr 2
      rw [r]
      clear he hp r
      generalize str S = S' at *
      generalize str magicB = M at *
      go_enter Tryd.func50, Tryd.ntmps50
      go_wp2_with fail
      go_ret
      exact ⟨rfl, rfl⟩
    · have r : preB S = false := by unfold preB; rw [decide_eq_false_iff_not, prefix_take]; exact fun q => hp q.2
      have e : ¬ ((str S).extract 0 6).toList = (str magicB).toList := by
        rw [he, str_list, str_list]
        intro q
        exact hp (by simpa using q)
      replace e : (((str S).extract 0 6).toList == (str magicB).toList) = false := by simpa using e
      rw [r]
      clear he hp r
      generalize str S = S' at *
      generalize str magicB = M at *
      go_enter Tryd.func50, Tryd.ntmps50
      go_wp2_with fail
      go_ret
      exact ⟨rfl, rfl⟩
  · have hl' : ¬ (6 : Int) ≤ S.length := by omega
    have r : preB S = false := by unfold preB; rw [decide_eq_false_iff_not, prefix_take]; exact fun q => hl q.1
    rw [r]
    clear r
    generalize str S = S' at *
    generalize str magicB = M at *
    go_enter Tryd.func50, Tryd.ntmps50
    go_wp2_with fail
    go_ret
    exact ⟨rfl, rfl⟩
set_option maxHeartbeats 400000 in
theorem HasPrefix_any (S : List UInt8) (w : World) :
    Calls Tryd.prog 25 #[.string (str S), .string (str magicB)] w fun x w' => x = .returned (.bool (preB S)) ∧ w = w' := by
  have hl := litePrefix_any S
  generalize str S = S' at *
  generalize str magicB = M at *
  go_enter Tryd.func25, Tryd.ntmps25
  go_wp2_with (go_at_call 50; refine (hl _).mono ?_; rintro x w' ⟨rfl, rfl⟩)
  go_ret
  exact ⟨rfl, rfl⟩
/-- A program in rows of its own, from block 'lo' on. -/
structure ImgOwn (lo : Nat) (w : World) (rv cv gv : Value) (m : PImg) : Prop where
  regs : ∃ css, w.ownsRow lo 52 4 rv m.regs.length css.flatten ∧ All2 (RegC lo w) css m.regs
  comps : ∃ css, w.ownsRow lo 57 2 cv m.comps.length css.flatten ∧ All2 (CompC lo w) css m.comps
  gates : ∃ css, w.ownsRow lo 61 4 gv m.gates.length css.flatten ∧ All2 (GateC lo w) css m.gates
/-- What is turned is of no row of a program. -/
structure Ne7 (w : World) (row : Option Nat) : Prop where
  inner : TyNes w row
  regs : TyNe w row 52
  comps : TyNe w row 57
  gates : TyNe w row 61
theorem ne7_none (w : World) : Ne7 w none := ⟨nes_none w, tyNe_none w _, tyNe_none w _, tyNe_none w _⟩
def Odd7 (t : TypeId) : Prop := t ≠ 91 ∧ t ≠ 93 ∧ t ≠ 74 ∧ t ≠ 88 ∧ t ≠ 52 ∧ t ≠ 57 ∧ t ≠ 61
instance (t : TypeId) : Decidable (Odd7 t) := by unfold Odd7; infer_instance
theorem ne7_box {w : World} {k : Nat} {cs : Array Value} {t : TypeId} (h : Box w k cs t) (ht : Odd7 t) : Ne7 w (some k) :=
  ⟨nes_box h ht.1 ht.2.1 ht.2.2.1 ht.2.2.2.1, tyNe_box h ht.2.2.2.2.1, tyNe_box h ht.2.2.2.2.2.1, tyNe_box h ht.2.2.2.2.2.2⟩
theorem ImgOwn.step {lo : Nat} {w w' : World} {rv cv gv : Value} {m : PImg} {row : Option Nat} (h : ImgOwn lo w rv cv gv m) (hg : w.grownBy w' row) (ht : Ne7 w row) : ImgOwn lo w' rv cv gv m := by
  obtain ⟨⟨a, a1, a2⟩, ⟨b, b1, b2⟩, ⟨c, c1, c2⟩⟩ := h
  exact ⟨⟨a, own_ty a1 hg ht.regs, a2.imp fun _ _ q => q.step hg ht.inner⟩, ⟨b, own_ty b1 hg ht.comps, b2.imp fun _ _ q => q.step hg ht.inner⟩, ⟨c, own_ty c1 hg ht.gates, c2.imp fun _ _ q => q.step hg ht.inner⟩⟩
theorem ImgOwn.row {lo : Nat} {rv cv gv : Value} {m : PImg} {k : Nat} {t : TypeId} (ht : Odd7 t) : ∀ (vs : List Value) {w : World} {j : Nat} {cs : Array Value}, ImgOwn lo w rv cv gv m → Box w k cs t → ImgOwn lo (setRow w k j vs) rv cv gv m
  | [], _, _, _, h, _ => h
  | u :: vs, w, j, _, h, hb => ImgOwn.row ht vs (h.step (grown_set w k j u) (ne7_box hb ht)) (hb.set j u)
theorem RegC.base {lo lo' : Nat} {w : World} {cs : List Value} {r : PReg} (h : RegC lo w cs r) (hl : lo' ≤ lo) : RegC lo' w cs r := by
  obtain ⟨sa, sc, e, h1⟩ := h
  exact ⟨sa, sc, e, own_base h1 hl⟩
theorem CompC.base {lo lo' : Nat} {w : World} {cs : List Value} {r : PComp} (h : CompC lo w cs r) (hl : lo' ≤ lo) : CompC lo' w cs r := by
  obtain ⟨ra, rc, ka, kc, e, h1, h2⟩ := h
  exact ⟨ra, rc, ka, kc, e, own_base h1 hl, own_base h2 hl⟩
theorem GateC.base {lo lo' : Nat} {w : World} {cs : List Value} {r : PGate} (h : GateC lo w cs r) (hl : lo' ≤ lo) : GateC lo' w cs r := by
  obtain ⟨xa, xc, ya, yc, e, h1, h2⟩ := h
  exact ⟨xa, xc, ya, yc, e, own_base h1 hl, own_base h2 hl⟩
theorem ImgOwn.base {lo lo' : Nat} {w : World} {rv cv gv : Value} {m : PImg} (h : ImgOwn lo w rv cv gv m) (hl : lo' ≤ lo) : ImgOwn lo' w rv cv gv m := by
  obtain ⟨⟨a, a1, a2⟩, ⟨b, b1, b2⟩, ⟨c, c1, c2⟩⟩ := h
  exact ⟨⟨a, own_base a1 hl, a2.imp fun _ _ q => q.base hl⟩, ⟨b, own_base b1 hl, b2.imp fun _ _ q => q.base hl⟩, ⟨c, own_base c1 hl, c2.imp fun _ _ q => q.base hl⟩⟩
set_option maxRecDepth 10000 in
set_option maxHeartbeats 4000000 in
theorem rimage_any (S : List UInt8) (kr : Nat) (w : World) (ht : TabIn w) (hk : 2 ≤ kr) (h : RIn w kr S ⟨0, 0, 0⟩) (hS : S.length ≤ 1000000) :
    Calls Tryd.prog 12 #[.pointer (some ⟨kr, 0, none⟩)] w fun x w' => ∃ ra rc ca cc ga gc, x = .returned (.agg #[.slice ra (imgP S).1.regs.length rc, .slice ca (imgP S).1.comps.length cc, .slice ga (imgP S).1.gates.length gc, .int .i64 (imgP S).1.depth]) ∧ ImgOwn w.heap.size w' (.slice ra (imgP S).1.regs.length rc) (.slice ca (imgP S).1.comps.length cc) (.slice ga (imgP S).1.gates.length gc) (imgP S).1 ∧ RIn w' kr S (imgP S).2 ∧ w.grownBy w' (some kr) := by
  have hS2 : S.length ≤ 140737488355328 := by omega
  have ss := str_size S
  have hne : w.heap.size ≠ kr := by have := h.lt; omega
  have hp := HasPrefix_any S
  have ⟨z0, p0, f0⟩ := (h.alloc (.cells #[.slice none 0 0, .slice none 0 0, .slice none 0 0, .int .i64 0] 27)).at
  by_cases hpre : magicB <+: S
  case neg =>
    have r1 : imgP S = (zImg, ⟨0, 40, 0⟩) := if_neg hpre
    have r2 : preB S = false := by unfold preB; rw [decide_eq_false_iff_not]; exact hpre
    have hF := fun W h1 => fail_any S kr ⟨0, 0, 0⟩ 40 0 W h1
    have r3 : failS 40 0 ⟨0, 0, 0⟩ = ⟨0, 40, 0⟩ := rfl
    rw [r3] at hF
    rw [r1]
    rw [r2] at hp
    unfold zImg
    simp only [List.length_nil]
    clear r1 r2 r3 hpre ht
    replace h := Hid.mk h
    go_enter Tryd.func12, Tryd.ntmps12
    go_wp2_with fail
    refine (hp _).mono ?_
    rintro x w1 ⟨rfl, rfl⟩
    go_wp2_with fail
    have X := Box.new w #[.slice none 0 0, .slice none 0 0, .slice none 0 0, .int .i64 0] 27
    have hg := grown_of ((Gr.refl w).alloc (.cells #[.slice none 0 0, .slice none 0 0, .slice none 0 0, .int .i64 0] 27)).below (some kr)
    have h2 : RIn (w.alloc (.cells #[.slice none 0 0, .slice none 0 0, .slice none 0 0, .int .i64 0] 27)) kr S ⟨0, 0, 0⟩ := h.out.alloc _
    clear z0 p0 f0 h hp
    refine (hF _ h2).mono ?_
    rintro x w2 ⟨rfl, h, hg2⟩
    replace X := X.kept hg2 hne
    replace hg := Hid.mk (hg.trans hg2)
    replace h := Hid.mk h
    clear hg2 h2 hF
    have ⟨z0, p0, f0⟩ := X.at
    replace X := Hid.mk X
    go_wp2_with fail
    have b4 : Box (((((w2).setCell ⟨w.heap.size, 0, none⟩ (.slice none 0 0)).setCell ⟨w.heap.size, 1, none⟩ (.slice none 0 0)).setCell ⟨w.heap.size, 2, none⟩ (.slice none 0 0)).setCell ⟨w.heap.size, 3, none⟩ (.int .i64 0)) w.heap.size #[.slice none 0 0, .slice none 0 0, .slice none 0 0, .int .i64 0] 27 := Box.setRow X.out [.slice none 0 0, .slice none 0 0, .slice none 0 0, .int .i64 0] rfl
    have h4 : RIn (((((w2).setCell ⟨w.heap.size, 0, none⟩ (.slice none 0 0)).setCell ⟨w.heap.size, 1, none⟩ (.slice none 0 0)).setCell ⟨w.heap.size, 2, none⟩ (.slice none 0 0)).setCell ⟨w.heap.size, 3, none⟩ (.int .i64 0)) kr S ⟨0, 40, 0⟩ := Box.setRow_other (cs := [.slice none 0 0, .slice none 0 0, .slice none 0 0, .int .i64 0]) h.out hne
    have hg4 : w.grownBy (((((w2).setCell ⟨w.heap.size, 0, none⟩ (.slice none 0 0)).setCell ⟨w.heap.size, 1, none⟩ (.slice none 0 0)).setCell ⟨w.heap.size, 2, none⟩ (.slice none 0 0)).setCell ⟨w.heap.size, 3, none⟩ (.int .i64 0)) (some kr) := grown_row [.slice none 0 0, .slice none 0 0, .slice none 0 0, .int .i64 0] hg.out (Nat.le_refl _)
    have ⟨_, q4, _⟩ := b4.at
    clear z0 p0 f0 X hg h b4
    generalize ((((w2).setCell ⟨w.heap.size, 0, none⟩ (.slice none 0 0)).setCell ⟨w.heap.size, 1, none⟩ (.slice none 0 0)).setCell ⟨w.heap.size, 2, none⟩ (.slice none 0 0)).setCell ⟨w.heap.size, 3, none⟩ (.int .i64 0) = W4 at *
    simp [bodyPost, results, Tryd.results12, go_sem, q4]
    exact ⟨none, 0, none, 0, none, 0, by simp, ⟨⟨[], ⟨rfl, .inl ⟨rfl, rfl⟩⟩, trivial⟩, ⟨[], ⟨rfl, .inl ⟨rfl, rfl⟩⟩, trivial⟩, ⟨[], ⟨rfl, .inl ⟨rfl, rfl⟩⟩, trivial⟩⟩, h4, hg4⟩
  have r1 : imgP S = (⟨(regsP S).1, (compsP S).1, (gatesP S).1, numV S 1 h0S⟩, restS S (gatesP S).2) := if_pos hpre
  have r2 : preB S = true := by unfold preB; rw [decide_eq_true_eq]; exact hpre
  have h6 : 6 ≤ S.length := (prefix_take.1 hpre).1
  have hTI : ∀ W, w.grownBy W (some kr) → TabIn W := fun W hg => ht.below (n := kr) (Below.of_grown hg (Nat.le_of_lt h.lt) (fun g e => by cases e; omega)) hk
  replace hTI := Hid.mk hTI
  rw [r1]
  rw [r2] at hp
  clear r1 r2 hpre ht
  have i0 : h0S.In S := h6
  have i1 : (h1S S).In S := takeS_in 1 i0
  have i2 : (h2S S).In S := takeS_in 1 i1
  have i3 : (h3S S).In S := takeS_in 1 i2
  have i4 : (h4S S).In S := takeS_in 1 i3
  have i5 : (regsP S).2.In S := listF_in (fun _ h => regP_in h) _ _ _ i4
  have i6 : (compsP S).2.In S := listF_in (fun _ h => compP_in h) _ _ _ i5
  have i7 : (gatesP S).2.In S := listF_in (fun _ h => gateP_in h) _ _ _ i6
  have c1 : ∀ W, RIn W kr S h0S → Calls Tryd.prog 27 #[.pointer (some ⟨kr, 0, none⟩), .int .i64 1] W fun x w' => x = .returned (.int .i64 (numV S 1 h0S)) ∧ RIn w' kr S (h1S S) ∧ W.grownBy w' (some kr) := fun W h1 => count_any S kr 1 h0S W h1 i0 hS2 (by omega)
  have c2 : ∀ W, RIn W kr S (h1S S) → Calls Tryd.prog 27 #[.pointer (some ⟨kr, 0, none⟩), .int .i64 1] W fun x w' => x = .returned (.int .i64 (numV S 1 (h1S S))) ∧ RIn w' kr S (h2S S) ∧ W.grownBy w' (some kr) := fun W h1 => count_any S kr 1 (h1S S) W h1 i1 hS2 (by omega)
  have c3 : ∀ W, RIn W kr S (h2S S) → Calls Tryd.prog 27 #[.pointer (some ⟨kr, 0, none⟩), .int .i64 1] W fun x w' => x = .returned (.int .i64 (numV S 1 (h2S S))) ∧ RIn w' kr S (h3S S) ∧ W.grownBy w' (some kr) := fun W h1 => count_any S kr 1 (h2S S) W h1 i2 hS2 (by omega)
  have c4 : ∀ W, RIn W kr S (h3S S) → Calls Tryd.prog 27 #[.pointer (some ⟨kr, 0, none⟩), .int .i64 1] W fun x w' => x = .returned (.int .i64 (numV S 1 (h3S S))) ∧ RIn w' kr S (h4S S) ∧ W.grownBy w' (some kr) := fun W h1 => count_any S kr 1 (h3S S) W h1 i3 hS2 (by omega)
  have c5 : ∀ W, RIn W kr S (h4S S) → Calls Tryd.prog 28 #[.pointer (some ⟨kr, 0, none⟩), .int .i64 (numV S 1 (h1S S)), .func (.func 29) #[.pointer (some ⟨kr, 0, none⟩)] #[]] W fun x w' => ∃ v, x = .returned v ∧ ∃ css, w'.ownsRow W.heap.size 52 4 v (regsP S).1.length css.flatten ∧ All2 (RegC W.heap.size w') css (regsP S).1 ∧ RIn w' kr S (regsP S).2 ∧ W.grownBy w' (some kr) := fun W h1 => by
    have hq := num1 S (h1S S)
    have := listRegion_any S kr (numV S 1 (h1S S)).toNat (h4S S) W h1 i4 hS (by omega)
    rwa [toNat_num] at this
  have c6 : ∀ W, TabIn W → RIn W kr S (regsP S).2 → Calls Tryd.prog 30 #[.pointer (some ⟨kr, 0, none⟩), .int .i64 (numV S 1 (h2S S)), .func (.func 31) #[.pointer (some ⟨kr, 0, none⟩)] #[]] W fun x w' => ∃ v, x = .returned v ∧ ∃ css, w'.ownsRow W.heap.size 57 2 v (compsP S).1.length css.flatten ∧ All2 (CompC W.heap.size w') css (compsP S).1 ∧ RIn w' kr S (compsP S).2 ∧ W.grownBy w' (some kr) := fun W h0 h1 => by
    have hq := num1 S (h2S S)
    have := listComp_any S kr (numV S 1 (h2S S)).toNat (regsP S).2 W h0 hk h1 i5 hS (by omega)
    rwa [toNat_num] at this
  have c7 : ∀ W, RIn W kr S (compsP S).2 → Calls Tryd.prog 32 #[.pointer (some ⟨kr, 0, none⟩), .int .i64 (numV S 1 (h3S S)), .func (.func 33) #[.pointer (some ⟨kr, 0, none⟩)] #[]] W fun x w' => ∃ v, x = .returned v ∧ ∃ css, w'.ownsRow W.heap.size 61 4 v (gatesP S).1.length css.flatten ∧ All2 (GateC W.heap.size w') css (gatesP S).1 ∧ RIn w' kr S (gatesP S).2 ∧ W.grownBy w' (some kr) := fun W h1 => by
    have hq := num1 S (h3S S)
    have := listGate_any S kr (numV S 1 (h3S S)).toNat (compsP S).2 W h1 i6 hS (by omega)
    rwa [toNat_num] at this
  have hF := fun W h1 => fail_any S kr (gatesP S).2 49 (gatesP S).2.i W h1
  have hrs : restS S (gatesP S).2 = if (gatesP S).2.i < S.length then failS 49 (gatesP S).2.i (gatesP S).2 else (gatesP S).2 := rfl
  unfold RS.In at i7
  generalize restS S (gatesP S).2 = σ8 at *
  clear i1 i2 i3 i4 i5 i6 i0
  generalize regsP S = q5 at *
  generalize compsP S = q6 at *
  generalize gatesP S = q7 at *
  generalize numV S 1 (h3S S) = y4 at *
  generalize h4S S = σ4 at *
  generalize numV S 1 (h2S S) = y3 at *
  generalize h3S S = σ3 at *
  generalize numV S 1 (h1S S) = y2 at *
  generalize h2S S = σ2 at *
  generalize h1S S = σ1 at *
  generalize numV S 1 h0S = y1 at *
  obtain ⟨L5, σ5⟩ := q5
  obtain ⟨L6, σ6⟩ := q6
  obtain ⟨L7, σ7⟩ := q7
  simp only at *
  replace h := Hid.mk h
  replace hrs := Hid.mk hrs
  go_enter Tryd.func12, Tryd.ntmps12
  go_wp2_with fail
  refine (hp _).mono ?_
  rintro x w1 ⟨rfl, rfl⟩
  go_wp2_with fail
  have X := Hid.mk ((Box.new w #[.slice none 0 0, .slice none 0 0, .slice none 0 0, .int .i64 0] 27).kept (grown_set _ kr 1 (.int .i64 6)) hne)
  have hg := Hid.mk ((grown_of ((Gr.refl w).alloc (.cells #[.slice none 0 0, .slice none 0 0, .slice none 0 0, .int .i64 0] 27)).below (some kr)).trans (grown_set _ kr 1 (.int .i64 6)))
  replace h : Hid (RIn ((w.alloc (.cells #[.slice none 0 0, .slice none 0 0, .slice none 0 0, .int .i64 0] 27)).setCell ⟨kr, 1, none⟩ (.int .i64 6)) kr S h0S) := Hid.mk ((h.out.alloc _).set 1 (.int .i64 6))
  clear z0 p0 f0 hp
  refine (c1 _ h.out).mono ?_
  clear h
  rintro x w2 ⟨rfl, h, hg2⟩
  replace X := Hid.mk (X.out.kept hg2 hne)
  replace hg := Hid.mk (hg.out.trans hg2)
  replace h := Hid.mk h
  clear hg2 c1
  go_wp2_with fail
  refine (c2 _ h.out).mono ?_
  clear h
  rintro x w3 ⟨rfl, h, hg2⟩
  replace X := Hid.mk (X.out.kept hg2 hne)
  replace hg := Hid.mk (hg.out.trans hg2)
  replace h := Hid.mk h
  clear hg2 c2
  go_wp2_with fail
  refine (c3 _ h.out).mono ?_
  clear h
  rintro x w4 ⟨rfl, h, hg2⟩
  replace X := Hid.mk (X.out.kept hg2 hne)
  replace hg := Hid.mk (hg.out.trans hg2)
  replace h := Hid.mk h
  clear hg2 c3
  go_wp2_with fail
  refine (c4 _ h.out).mono ?_
  clear h
  rintro x w5 ⟨rfl, h, hg2⟩
  replace X := Hid.mk (X.out.kept hg2 hne)
  replace hg := Hid.mk (hg.out.trans hg2)
  replace h := Hid.mk h
  clear hg2 c4
  go_wp2_with fail
  refine (c5 _ h.out).mono ?_
  clear h
  rintro x w6 ⟨v, rfl, rs, hO, hE, h, hg2⟩
  obtain ⟨ra, rc, rfl⟩ := own_slice hO
  have r := Hid.mk (And.intro (own_base hO hg.out.size) (hE.imp fun _ _ q => q.base hg.out.size))
  clear hO hE
  replace X := Hid.mk (X.out.kept hg2 hne)
  replace hg := Hid.mk (hg.out.trans hg2)
  replace h := Hid.mk h
  clear hg2 c5
  go_wp2_with fail
  have rk := Hid.mk (fun W hW => And.intro (own_kept (w' := W) r.out.1 hW (own_ne r.out.1 h.out (by decide))) (r.out.2.imp fun _ _ q => q.step hW (nes_box h.out (by decide) (by decide) (by decide) (by decide))))
  refine (c6 _ (hTI.out _ hg.out) h.out).mono ?_
  clear h
  rintro x w7 ⟨v, rfl, cs, hO, hE, h, hg2⟩
  obtain ⟨ca, cc, rfl⟩ := own_slice hO
  have c := Hid.mk (And.intro (own_base hO hg.out.size) (hE.imp fun _ _ q => q.base hg.out.size))
  clear hO hE
  replace r := Hid.mk (rk.out _ hg2)
  clear rk
  replace X := Hid.mk (X.out.kept hg2 hne)
  replace hg := Hid.mk (hg.out.trans hg2)
  replace h := Hid.mk h
  clear hg2 c6
  go_wp2_with fail
  have rk := Hid.mk (fun W hW => And.intro (own_kept (w' := W) r.out.1 hW (own_ne r.out.1 h.out (by decide))) (r.out.2.imp fun _ _ q => q.step hW (nes_box h.out (by decide) (by decide) (by decide) (by decide))))
  have ck := Hid.mk (fun W hW => And.intro (own_kept (w' := W) c.out.1 hW (own_ne c.out.1 h.out (by decide))) (c.out.2.imp fun _ _ q => q.step hW (nes_box h.out (by decide) (by decide) (by decide) (by decide))))
  refine (c7 _ h.out).mono ?_
  clear h
  rintro x w8 ⟨v, rfl, gs, hO, hE, h, hg2⟩
  obtain ⟨ga, gc, rfl⟩ := own_slice hO
  have g := Hid.mk (And.intro (own_base hO hg.out.size) (hE.imp fun _ _ q => q.base hg.out.size))
  clear hO hE
  replace r := Hid.mk (rk.out _ hg2)
  clear rk
  replace c := Hid.mk (ck.out _ hg2)
  clear ck
  replace X := Hid.mk (X.out.kept hg2 hne)
  replace hg := Hid.mk (hg.out.trans hg2)
  replace h := Hid.mk h
  clear hg2 c7
  have hm : ImgOwn w.heap.size w8 (.slice ra L5.length rc) (.slice ca L6.length cc) (.slice ga L7.length gc) ⟨L5, L6, L7, y1⟩ := ⟨⟨_, r.out⟩, ⟨_, c.out⟩, ⟨_, g.out⟩⟩
  clear r c g
  have hG8 : Gr w8 (w8.alloc (.cells #[.slice ra L5.length rc, .slice ca L6.length cc, .slice ga L7.length gc, .int .i64 y1] 27)) := (Gr.refl w8).alloc _
  have Mb := Box.new w8 #[.slice ra L5.length rc, .slice ca L6.length cc, .slice ga L7.length gc, .int .i64 y1] 27
  have hmk : w8.heap.size ≠ kr := by have := h.out.lt; omega
  have hxm : w.heap.size < w8.heap.size := by have := X.out.lt; omega
  have h8 : RIn (w8.alloc (.cells #[.slice ra L5.length rc, .slice ca L6.length cc, .slice ga L7.length gc, .int .i64 y1] 27)) kr S σ7 := h.out.gr hG8
  have X8 := X.out.gr hG8
  have hm8 := hm.step (grown_of hG8.below none) (ne7_none _)
  have hg8 := hg.out.trans (grown_of hG8.below (some kr))
  have ⟨z0, p0, f0⟩ := h.out.at
  clear h X hm hg hG8
  replace Mb := Hid.mk Mb
  replace h8 := Hid.mk h8
  replace X8 := Hid.mk X8
  replace hm8 := Hid.mk hm8
  replace hg8 := Hid.mk hg8
  replace hxm := Hid.mk hxm
  go_wp2_with fail
  clear z0 p0 f0
  refine wp_world (fun W => RIn W kr S σ7 ∧ Box W w.heap.size #[.slice none 0 0, .slice none 0 0, .slice none 0 0, .int .i64 0] 27 ∧ Box W w8.heap.size #[.slice ra L5.length rc, .slice ca L6.length cc, .slice ga L7.length gc, .int .i64 y1] 27 ∧ ImgOwn w.heap.size W (.slice ra L5.length rc) (.slice ca L6.length cc) (.slice ga L7.length gc) ⟨L5, L6, L7, y1⟩ ∧ w.grownBy W (some kr)) ⟨h8.out, X8.out, Mb.out, hm8.out, hg8.out⟩ ?_
  clear h8 X8 Mb hm8 hg8
  rintro W ⟨h8, X, Mb, hm, hg⟩
  generalize w8.heap.size = km at *
  have hn1 : km ≠ w.heap.size := by have := hxm.out; omega
  have ⟨z0, p0, f0⟩ := h8.at
  have ⟨z1, p1, f1⟩ := X.at
  have ⟨z2, p2, f2⟩ := Mb.at
  replace h8 := Hid.mk h8
  replace X := Hid.mk X
  replace Mb := Hid.mk Mb
  replace hm := Hid.mk hm
  replace hg := Hid.mk hg
  by_cases hl : σ7.i < S.length
  · have hl' : (σ7.i : Int) < S.length := by omega
    obtain rfl := hrs.out.trans (if_pos hl)
    go_quiet (fail)
    go_wp2_with fail
    have hGn := (Gr.refl W).drewN nq
    refine (hF _ (h8.out.gr hGn)).mono ?_
    have hmk2 := ne7_box (h8.out.gr hGn) (by decide)
    rintro x w9 ⟨rfl, h9, hg2⟩
    replace X := Hid.mk ((X.out.gr hGn).kept hg2 hne)
    replace Mb := Hid.mk ((Mb.out.gr hGn).kept hg2 hmk)
    replace hm := Hid.mk ((hm.out.step (grown_of hGn.below none) (ne7_none _)).step hg2 hmk2)
    replace hg := Hid.mk ((hg.out.trans (grown_of hGn.below _)).trans hg2)
    clear h8 z0 p0 f0 z1 p1 f1 z2 p2 f2 hg2 hF hGn hmk2
    have h8 := Hid.mk h9
    clear h9
    have ⟨z0, p0, f0⟩ := h8.out.at
    have ⟨z1, p1, f1⟩ := X.out.at
    have ⟨z2, p2, f2⟩ := Mb.out.at
    go_wp2_with fail
    have b4 : Box (((((w9).setCell ⟨w.heap.size, 0, none⟩ (.slice ra L5.length rc)).setCell ⟨w.heap.size, 1, none⟩ (.slice ca L6.length cc)).setCell ⟨w.heap.size, 2, none⟩ (.slice ga L7.length gc)).setCell ⟨w.heap.size, 3, none⟩ (.int .i64 y1)) w.heap.size #[.slice ra L5.length rc, .slice ca L6.length cc, .slice ga L7.length gc, .int .i64 y1] 27 := Box.setRow X.out [.slice ra L5.length rc, .slice ca L6.length cc, .slice ga L7.length gc, .int .i64 y1] rfl
    have h4 : RIn (((((w9).setCell ⟨w.heap.size, 0, none⟩ (.slice ra L5.length rc)).setCell ⟨w.heap.size, 1, none⟩ (.slice ca L6.length cc)).setCell ⟨w.heap.size, 2, none⟩ (.slice ga L7.length gc)).setCell ⟨w.heap.size, 3, none⟩ (.int .i64 y1)) kr S _ := Box.setRow_other (cs := [.slice ra L5.length rc, .slice ca L6.length cc, .slice ga L7.length gc, .int .i64 y1]) h8.out hne
    have hg4 : w.grownBy (((((w9).setCell ⟨w.heap.size, 0, none⟩ (.slice ra L5.length rc)).setCell ⟨w.heap.size, 1, none⟩ (.slice ca L6.length cc)).setCell ⟨w.heap.size, 2, none⟩ (.slice ga L7.length gc)).setCell ⟨w.heap.size, 3, none⟩ (.int .i64 y1)) (some kr) := grown_row [.slice ra L5.length rc, .slice ca L6.length cc, .slice ga L7.length gc, .int .i64 y1] hg.out (Nat.le_refl _)
    have O4 : ImgOwn w.heap.size (((((w9).setCell ⟨w.heap.size, 0, none⟩ (.slice ra L5.length rc)).setCell ⟨w.heap.size, 1, none⟩ (.slice ca L6.length cc)).setCell ⟨w.heap.size, 2, none⟩ (.slice ga L7.length gc)).setCell ⟨w.heap.size, 3, none⟩ (.int .i64 y1)) (.slice ra L5.length rc) (.slice ca L6.length cc) (.slice ga L7.length gc) ⟨L5, L6, L7, y1⟩ := ImgOwn.row (by decide) [.slice ra L5.length rc, .slice ca L6.length cc, .slice ga L7.length gc, .int .i64 y1] hm.out X.out
    have ⟨_, q4, _⟩ := b4.at
    clear z0 p0 f0 z1 p1 f1 z2 p2 f2 X Mb hg h8 hm b4
    generalize ((((w9).setCell ⟨w.heap.size, 0, none⟩ (.slice ra L5.length rc)).setCell ⟨w.heap.size, 1, none⟩ (.slice ca L6.length cc)).setCell ⟨w.heap.size, 2, none⟩ (.slice ga L7.length gc)).setCell ⟨w.heap.size, 3, none⟩ (.int .i64 y1) = W4 at *
    simp [bodyPost, results, Tryd.results12, go_sem, q4]
    exact ⟨ra, rc, ca, cc, ga, gc, ⟨⟨rfl, rfl⟩, ⟨rfl, rfl⟩, rfl, rfl⟩, O4, h4, hg4⟩
  · have hl' : ¬ (σ7.i : Int) < S.length := by omega
    obtain rfl := hrs.out.trans (if_neg hl)
    go_quiet (fail)
    go_wp2_with fail
    have hGn := (Gr.refl W).drewN nq
    replace X := Hid.mk (X.out.gr hGn)
    replace h8 := Hid.mk (h8.out.gr hGn)
    replace hm := Hid.mk (hm.out.step (grown_of hGn.below none) (ne7_none _))
    replace hg := Hid.mk (hg.out.trans (grown_of hGn.below _))
    clear hGn
    have b4 : Box ((((((W.drewN nq)).setCell ⟨w.heap.size, 0, none⟩ (.slice ra L5.length rc)).setCell ⟨w.heap.size, 1, none⟩ (.slice ca L6.length cc)).setCell ⟨w.heap.size, 2, none⟩ (.slice ga L7.length gc)).setCell ⟨w.heap.size, 3, none⟩ (.int .i64 y1)) w.heap.size #[.slice ra L5.length rc, .slice ca L6.length cc, .slice ga L7.length gc, .int .i64 y1] 27 := Box.setRow X.out [.slice ra L5.length rc, .slice ca L6.length cc, .slice ga L7.length gc, .int .i64 y1] rfl
    have h4 : RIn ((((((W.drewN nq)).setCell ⟨w.heap.size, 0, none⟩ (.slice ra L5.length rc)).setCell ⟨w.heap.size, 1, none⟩ (.slice ca L6.length cc)).setCell ⟨w.heap.size, 2, none⟩ (.slice ga L7.length gc)).setCell ⟨w.heap.size, 3, none⟩ (.int .i64 y1)) kr S _ := Box.setRow_other (cs := [.slice ra L5.length rc, .slice ca L6.length cc, .slice ga L7.length gc, .int .i64 y1]) h8.out hne
    have hg4 : w.grownBy ((((((W.drewN nq)).setCell ⟨w.heap.size, 0, none⟩ (.slice ra L5.length rc)).setCell ⟨w.heap.size, 1, none⟩ (.slice ca L6.length cc)).setCell ⟨w.heap.size, 2, none⟩ (.slice ga L7.length gc)).setCell ⟨w.heap.size, 3, none⟩ (.int .i64 y1)) (some kr) := grown_row [.slice ra L5.length rc, .slice ca L6.length cc, .slice ga L7.length gc, .int .i64 y1] hg.out (Nat.le_refl _)
    have O4 : ImgOwn w.heap.size ((((((W.drewN nq)).setCell ⟨w.heap.size, 0, none⟩ (.slice ra L5.length rc)).setCell ⟨w.heap.size, 1, none⟩ (.slice ca L6.length cc)).setCell ⟨w.heap.size, 2, none⟩ (.slice ga L7.length gc)).setCell ⟨w.heap.size, 3, none⟩ (.int .i64 y1)) (.slice ra L5.length rc) (.slice ca L6.length cc) (.slice ga L7.length gc) ⟨L5, L6, L7, y1⟩ := ImgOwn.row (by decide) [.slice ra L5.length rc, .slice ca L6.length cc, .slice ga L7.length gc, .int .i64 y1] hm.out X.out
    have ⟨_, q4, _⟩ := b4.at
    clear z0 p0 f0 z1 p1 f1 z2 p2 f2 X Mb hg h8 hm b4
    generalize (((((W.drewN nq)).setCell ⟨w.heap.size, 0, none⟩ (.slice ra L5.length rc)).setCell ⟨w.heap.size, 1, none⟩ (.slice ca L6.length cc)).setCell ⟨w.heap.size, 2, none⟩ (.slice ga L7.length gc)).setCell ⟨w.heap.size, 3, none⟩ (.int .i64 y1) = W4 at *
    simp [bodyPost, results, Tryd.results12, go_sem, q4]
    exact ⟨ra, rc, ca, cc, ga, gc, ⟨⟨rfl, rfl⟩, ⟨rfl, rfl⟩, rfl, rfl⟩, O4, h4, hg4⟩
end Go.Proofs.YtdmkedpnkejpbaaDoor
