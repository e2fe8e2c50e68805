import Derived.Test.YtdmkedpnkejpbaaDoorMRdH
/-
  Stage 4, image: the reader's lists of regions, comps and gates.
-/
namespace Go.Proofs.YtdmkedpnkejpbaaDoor
open Go.RowKit

/-- Two lists, one by one. -/
def All2 {α β : Type} (E : α → β → Prop) : List α → List β → Prop
  | [], [] => True
  | a :: l, b :: m => E a b ∧ All2 E l m
  | [], _ :: _ => False
  | _ :: _, [] => False
theorem All2.imp {α β : Type} {E F : α → β → Prop} (h : ∀ a b, E a b → F a b) : ∀ {l : List α} {m : List β}, All2 E l m → All2 F l m
  | [], [], _ => trivial
  | _ :: _, _ :: _, ⟨h1, h2⟩ => ⟨h _ _ h1, All2.imp h h2⟩
theorem All2.snoc {α β : Type} {E : α → β → Prop} {a : α} {b : β} (h : E a b) : ∀ {l : List α} {m : List β}, All2 E l m → All2 E (l ++ [a]) (m ++ [b])
  | [], [], _ => ⟨h, trivial⟩
  | _ :: _, _ :: _, ⟨h1, h2⟩ => ⟨h1, All2.snoc h h2⟩
theorem All2.len {α β : Type} {E : α → β → Prop} : ∀ {l : List α} {m : List β}, All2 E l m → l.length = m.length
  | [], [], _ => rfl
  | _ :: _, _ :: _, ⟨_, h2⟩ => by simp [All2.len h2]
theorem All2.get {α β : Type} {E : α → β → Prop} : ∀ {l : List α} {m : List β}, All2 E l m → ∀ i (h : i < m.length), ∃ a, l[i]? = some a ∧ E a m[i]
  | [], [], _, i, h => by simp at h
  | a :: _, _ :: _, ⟨h1, _⟩, 0, _ => ⟨a, rfl, h1⟩
  | _ :: _, _ :: _, ⟨_, h2⟩, i + 1, h => by
    obtain ⟨a, e, q⟩ := All2.get h2 i (by simpa using h)
    exact ⟨a, by simpa using e, by simpa using q⟩
/-- What is turned is of no row of this type. -/
def TyNe (w : World) (row : Option Nat) (e : TypeId) : Prop := ∀ g, row = some g → ∃ cs t fr, w.heap[g]? = some (.cells cs t fr) ∧ t ≠ e
theorem own_ty {w w' : World} {base e size n : Nat} {v : Value} {xs : List Value} {row : Option Nat} (h : w.ownsRow base e size v n xs) (hg : w.grownBy w' row) (ht : TyNe w row e) : w'.ownsRow base e size v n xs := by
  refine own_grown h hg ?_
  intro g hv hr
  obtain ⟨cs, t, fr, hb, hne⟩ := ht g hr
  rcases h.2 with ⟨rfl, _⟩ | ⟨g', cap, cur, rfl, hbg, hh, _⟩
  · cases hv
  · obtain rfl : g' = g := by simpa [Value.ownBlock] using hv
    rw [hb] at hh
    simp at hh
    exact hne hh.2.1
theorem tyNe_box {w : World} {k : Nat} {cs : Array Value} {t e : TypeId} (h : Box w k cs t) (hne : t ≠ e) : TyNe w (some k) e := fun g hg => by
  cases hg; exact ⟨cs, t, _, h, hne⟩
theorem tyNe_own {w : World} {base e size n : Nat} {v : Value} {xs : List Value} {t : TypeId} (h : w.ownsRow base e size v n xs) (hne : e ≠ t) : TyNe w v.ownBlock t := fun g hg => by
  rcases h.2 with ⟨rfl, _⟩ | ⟨g', cap, cur, rfl, hbg, hh, _⟩
  · cases hg
  · obtain rfl : g' = g := by simpa [Value.ownBlock] using hg
    exact ⟨_, _, _, hh, hne⟩
theorem tyNe_none (w : World) (e : TypeId) : TyNe w none e := fun g hg => by cases hg
/-- A region's cells, its slots in a row of their own. -/
def RegC (lo : Nat) (w : World) (cs : List Value) (r : PReg) : Prop := ∃ sa sc, cs = [.int .u64 r.b, .int .u64 r.n, .string (str r.data), .slice sa r.slots.length sc] ∧ w.ownsRow lo 91 8 (.slice sa r.slots.length sc) r.slots.length (r.slots.flatMap PSlot.vals)
def CompC (lo : Nat) (w : World) (cs : List Value) (c : PComp) : Prop := ∃ ra rc ka kc, cs = [.slice ra c.roots.length rc, .slice ka c.code.length kc] ∧ w.ownsRow lo 93 6 (.slice ra c.roots.length rc) c.roots.length (c.roots.flatMap PRoot.vals) ∧ LOwn w lo (.slice ka c.code.length kc) c.code
def GateC (lo : Nat) (w : World) (cs : List Value) (g : PGate) : Prop := ∃ xa xc ya yc, cs = [.int .i64 g.c, .int .i64 g.e, .slice xa g.args.length xc, .slice ya g.res.length yc] ∧ w.ownsRow lo 88 7 (.slice xa g.args.length xc) g.args.length (g.args.flatMap PTyp.vals) ∧ w.ownsRow lo 88 7 (.slice ya g.res.length yc) g.res.length (g.res.flatMap PTyp.vals)
/-- What is turned is of no row of a program's inner lists. -/
def TyNes (w : World) (row : Option Nat) : Prop := TyNe w row 91 ∧ TyNe w row 93 ∧ TyNe w row 74 ∧ TyNe w row 88
theorem RegC.step {lo : Nat} {w w' : World} {row : Option Nat} {cs : List Value} {r : PReg} (hg : w.grownBy w' row) (ht : TyNes w row) (h : RegC lo w cs r) : RegC lo w' cs r := by
  obtain ⟨sa, sc, e, h1⟩ := h
  exact ⟨sa, sc, e, own_ty h1 hg ht.1⟩
theorem CompC.step {lo : Nat} {w w' : World} {row : Option Nat} {cs : List Value} {r : PComp} (hg : w.grownBy w' row) (ht : TyNes w row) (h : CompC lo w cs r) : CompC lo w' cs r := by
  obtain ⟨ra, rc, ka, kc, e, h1, h2⟩ := h
  exact ⟨ra, rc, ka, kc, e, own_ty h1 hg ht.2.1, own_ty h2 hg ht.2.2.1⟩
theorem GateC.step {lo : Nat} {w w' : World} {row : Option Nat} {cs : List Value} {r : PGate} (hg : w.grownBy w' row) (ht : TyNes w row) (h : GateC lo w cs r) : GateC lo w' cs r := by
  obtain ⟨xa, xc, ya, yc, e, h1, h2⟩ := h
  exact ⟨xa, xc, ya, yc, e, own_ty h1 hg ht.2.2.2, own_ty h2 hg ht.2.2.2⟩
theorem nes_box {w : World} {k : Nat} {cs : Array Value} {t : TypeId} (h : Box w k cs t) (h1 : t ≠ 91) (h2 : t ≠ 93) (h3 : t ≠ 74) (h4 : t ≠ 88) : TyNes w (some k) := ⟨tyNe_box h h1, tyNe_box h h2, tyNe_box h h3, tyNe_box h h4⟩
theorem nes_own {w : World} {base e size n : Nat} {v : Value} {xs : List Value} (h : w.ownsRow base e size v n xs) (h1 : e ≠ 91) (h2 : e ≠ 93) (h3 : e ≠ 74) (h4 : e ≠ 88) : TyNes w v.ownBlock := ⟨tyNe_own h h1, tyNe_own h h2, tyNe_own h h3, tyNe_own h h4⟩
theorem nes_none (w : World) : TyNes w none := ⟨tyNe_none w _, tyNe_none w _, tyNe_none w _, tyNe_none w _⟩
theorem infoRegion : (Tryd.prog.info? 52).map (fun i => (i.zero, i.size, i.bytes)) = some (some (.agg #[.int .u64 0, .int .u64 0, .string ⟨#[]⟩, .slice none 0 0]), 4, 56) := by kernel_rfl
theorem flat_snoc2 (css : List (List Value)) (cs : List Value) : (css ++ [cs]).flatten = css.flatten ++ cs := by simp
set_option maxRecDepth 10000 in
set_option maxHeartbeats 4000000 in
theorem listRegion_any (S : List UInt8) (kr : Nat) (n : Nat) (σ : RS) (w : World) (h : RIn w kr S σ) (hi : σ.In S) (hS : S.length ≤ 1000000) (hn : n ≤ 65535) :
    Calls Tryd.prog 28 #[.pointer (some ⟨kr, 0, none⟩), .int .i64 n, .func (.func 29) #[.pointer (some ⟨kr, 0, none⟩)] #[]] w fun x w' => ∃ v, x = .returned v ∧ ∃ css, w'.ownsRow w.heap.size 52 4 v (listF (regP S) n σ []).1.length css.flatten ∧ All2 (RegC w.heap.size w') css (listF (regP S) n σ []).1 ∧ RIn w' kr S (listF (regP S) n σ []).2 ∧ w.grownBy w' (some kr) := by
  have hc := fun σ W h1 h2 => rregion_any S kr σ W h1 h2 hS
  have hnn := Nat.le_refl n
  go_enter Tryd.func28, Tryd.ntmps28
  go_wp2_with fail
  go_loopw [7, 10] (fun l i wr => ∃ (j : Nat) (css : List (List Value)) (L : List PReg) (τ : RS), i = .int .i64 j ∧ j ≤ n ∧ Hid (wr.ownsRow w.heap.size 52 4 l L.length css.flatten ∧ All2 (RegC w.heap.size wr) css L ∧ L.length = j ∧ RIn wr kr S τ ∧ τ.In S ∧ w.grownBy wr (some kr) ∧ listF (regP S) (n - j) τ L = listF (regP S) n σ [])) (fun _ i _ => n - (intOf i).toNat)
  case atStart => exact ⟨0, [], [], σ, rfl, by omega, ⟨⟨rfl, .inl ⟨rfl, rfl⟩⟩, trivial, rfl, h, hi, grown_of (Below.refl _ _) _, rfl⟩⟩
  case round =>
    clear h hi
    obtain ⟨j, css, L, τ, rfl, hj, ⟨hO, hE, hL, h, hi, hg, hF⟩⟩ := hrel
    obtain ⟨la, lc, rfl⟩ := own_slice hO
    by_cases hlt : j < n
    · have jl : (j : Int) < n := by omega
      have c1 := hc τ wr h hi
      have hi1 := regP_in hi
      obtain ⟨q, hq⟩ : ∃ q, n - j = q + 1 := ⟨n - j - 1, by omega⟩
      have hq2 : n - (j + 1) = q := by omega
      rw [hq, listF] at hF
      have hO2 : ∀ W, wr.grownBy W (some kr) → W.ownsRow w.heap.size 52 4 (.slice la L.length lc) L.length css.flatten ∧ All2 (RegC w.heap.size W) css L := fun W hW => ⟨own_kept hO hW (own_ne hO h (by decide)), hE.imp fun _ _ q => q.step hW (nes_box h (by decide) (by decide) (by decide) (by decide))⟩
      clear hO hE
      generalize (regP S τ).1 = x at *
      generalize (regP S τ).2 = τ' at *
      replace hF := Hid.mk hF
      replace h := Hid.mk h
      replace hg := Hid.mk hg
      replace hO2 := Hid.mk hO2
      replace hL := Hid.mk hL
      have hsz := Hid.mk hg.out.size
      go_wp2_with fail
      refine c1.mono ?_
      rintro z w1 ⟨sa, sc, rfl, hn1, h1, hg1⟩
      obtain ⟨hO, hE⟩ := hO2.out w1 hg1
      have hN : RegC w.heap.size w1 [.int .u64 x.b, .int .u64 x.n, .string (str x.data), .slice sa x.slots.length sc] x := ⟨sa, sc, rfl, own_base hn1 hsz.out⟩
      replace hg := Hid.mk (hg.out.trans hg1)
      clear hg1 h hO2 c1 hc hn1
      have ⟨z0, p0, f0⟩ := (h1.alloc (.cells #[.int .u64 x.b, .int .u64 x.n, .string (str x.data), .slice sa x.slots.length sc] 52)).at
      have hG : Gr w1 ((w1.alloc (.cells #[.int .u64 x.b, .int .u64 x.n, .string (str x.data), .slice sa x.slots.length sc] 52)).alloc (.cells #[.int .u64 x.b, .int .u64 x.n, .string (str x.data), .slice sa x.slots.length sc] 52)) := ((Gr.refl w1).alloc _).alloc _
      by_cases he : τ'.e = 0
      · have he' : (τ'.e != 0) = false := by simpa using he
        replace hF := Hid.mk ((if_pos he).symm.trans hF.out)
        have hA : At ((w1.alloc (.cells #[.int .u64 x.b, .int .u64 x.n, .string (str x.data), .slice sa x.slots.length sc] 52)).alloc (.cells #[.int .u64 x.b, .int .u64 x.n, .string (str x.data), .slice sa x.slots.length sc] 52)) (w1.heap.size + 1) [Value.int .u64 x.b, .int .u64 x.n, .string (str x.data), .slice sa x.slots.length sc].toArray := At.next _ _ _ _
        replace hO := Hid.mk (own_below hO hG.below)
        replace hE := Hid.mk ((hE.snoc hN).imp fun _ _ q => q.step (grown_of hG.below none) (nes_none _))
        replace h1 := Hid.mk (h1.gr hG)
        replace hg := Hid.mk (hg.out.trans (grown_of hG.below _))
        have hs := Hid.mk hg.out.size
        replace hA := Hid.mk hA
        replace he := Hid.mk he
        clear hG hN
        go_wp2_with (at_builtin; refine wpList_append_el rfl (.tmp 19) (.tmp 21) 23 52 _ 4 56 rfl Tryd.underlying23 infoRegion rfl (by decide) (by decide) w.heap.size (.slice la L.length lc) L.length css.flatten [Value.int .u64 x.b, .int .u64 x.n, .string (str x.data), .slice sa x.slots.length sc] rfl hO.out (w1.heap.size + 1) rfl hA.out rfl (by simp [Value.oneCell']) (by have := hL.out; omega) hs.out ?_)
        intro g c w5 hrow hgr
        have hk5 := own_ne hO.out h1.out (by decide)
        replace hE := Hid.mk (hE.out.imp fun _ _ q => q.step hgr (nes_own hO.out (by decide) (by decide) (by decide) (by decide)))
        replace h1 := Hid.mk (Box.keptRow h1.out hgr hk5)
        replace hg := Hid.mk (hg.out.andThen hgr (fun i hq => .inl (own_block hO.out i hq).1))
        replace hrow := Hid.mk hrow
        clear hgr z0 p0 f0 hO hk5
        go_wp2_with fail
        go_roundw
        case rel => exact ⟨j + 1, css ++ [[.int .u64 x.b, .int .u64 x.n, .string (str x.data), .slice sa x.slots.length sc]], L ++ [x], τ', by simp, by omega, ⟨by rw [List.length_append, flat_snoc2]; exact hrow.out, hE.out, by rw [List.length_append, hL.out]; rfl, h1.out, hi1, hg.out, by rw [hq2]; exact hF.out⟩⟩
        case measure => simp [intOf]; omega
      · have he' : (τ'.e != 0) = true := by simpa using he
        replace hF := Hid.mk ((if_neg he).symm.trans hF.out)
        replace he := Hid.mk he
        replace h1 := Hid.mk (h1.alloc (.cells #[.int .u64 x.b, .int .u64 x.n, .string (str x.data), .slice sa x.slots.length sc] 52))
        replace hg := Hid.mk (hg.out.trans (grown_of ((Gr.refl w1).alloc (.cells #[.int .u64 x.b, .int .u64 x.n, .string (str x.data), .slice sa x.slots.length sc] 52)).below _))
        clear hG hO hE hN
        go_wp2_with fail
        go_ret
        refine ⟨_, rfl, [], ?_⟩
        rw [← hF.out]
        exact ⟨⟨rfl, .inl ⟨rfl, rfl⟩⟩, trivial, h1.out, hg.out⟩
    · have jl : ¬ (j : Int) < n := by omega
      have hq : n - j = 0 := by omega
      rw [hq, listF] at hF
      replace hF := Hid.mk hF
      replace hO := Hid.mk hO
      replace hE := Hid.mk hE
      replace h := Hid.mk h
      replace hg := Hid.mk hg
      clear hc hL
      go_wp2_with fail
      go_ret
      refine ⟨_, rfl, css, ?_⟩
      rw [← hF.out]
      exact ⟨hO.out, hE.out, h.out, hg.out⟩
set_option maxRecDepth 10000 in
set_option maxHeartbeats 4000000 in
theorem listComp_any (S : List UInt8) (kr : Nat) (n : Nat) (σ : RS) (w : World) (ht : TabIn w) (hk : 2 ≤ kr) (h : RIn w kr S σ) (hi : σ.In S) (hS : S.length ≤ 1000000) (hn : n ≤ 65535) :
    Calls Tryd.prog 30 #[.pointer (some ⟨kr, 0, none⟩), .int .i64 n, .func (.func 31) #[.pointer (some ⟨kr, 0, none⟩)] #[]] w fun x w' => ∃ v, x = .returned v ∧ ∃ css, w'.ownsRow w.heap.size 57 2 v (listF (compP S) n σ []).1.length css.flatten ∧ All2 (CompC w.heap.size w') css (listF (compP S) n σ []).1 ∧ RIn w' kr S (listF (compP S) n σ []).2 ∧ w.grownBy w' (some kr) := by
  have hTI : ∀ W, w.grownBy W (some kr) → TabIn W := fun W hg => ht.below (n := kr) (Below.of_grown hg (Nat.le_of_lt h.lt) (fun g e => by cases e; omega)) hk
  replace hTI := Hid.mk hTI
  clear ht
  have hc := fun σ W h0 h1 h2 => rcomp_any S kr σ W h0 hk h1 h2 hS
  have hnn := Nat.le_refl n
  go_enter Tryd.func30, Tryd.ntmps30
  go_wp2_with fail
  go_loopw [7, 10] (fun l i wr => ∃ (j : Nat) (css : List (List Value)) (L : List PComp) (τ : RS), i = .int .i64 j ∧ j ≤ n ∧ Hid (wr.ownsRow w.heap.size 57 2 l L.length css.flatten ∧ All2 (CompC w.heap.size wr) css L ∧ L.length = j ∧ RIn wr kr S τ ∧ τ.In S ∧ w.grownBy wr (some kr) ∧ listF (compP S) (n - j) τ L = listF (compP S) n σ [])) (fun _ i _ => n - (intOf i).toNat)
  case atStart => exact ⟨0, [], [], σ, rfl, by omega, ⟨⟨rfl, .inl ⟨rfl, rfl⟩⟩, trivial, rfl, h, hi, grown_of (Below.refl _ _) _, rfl⟩⟩
  case round =>
    clear h hi
    obtain ⟨j, css, L, τ, rfl, hj, ⟨hO, hE, hL, h, hi, hg, hF⟩⟩ := hrel
    obtain ⟨la, lc, rfl⟩ := own_slice hO
    by_cases hlt : j < n
    · have jl : (j : Int) < n := by omega
      have c1 := hc τ wr (hTI.out _ hg) h hi
      have hi1 := compP_in hi
      obtain ⟨q, hq⟩ : ∃ q, n - j = q + 1 := ⟨n - j - 1, by omega⟩
      have hq2 : n - (j + 1) = q := by omega
      rw [hq, listF] at hF
      have hO2 : ∀ W, wr.grownBy W (some kr) → W.ownsRow w.heap.size 57 2 (.slice la L.length lc) L.length css.flatten ∧ All2 (CompC w.heap.size W) css L := fun W hW => ⟨own_kept hO hW (own_ne hO h (by decide)), hE.imp fun _ _ q => q.step hW (nes_box h (by decide) (by decide) (by decide) (by decide))⟩
      clear hO hE
      generalize (compP S τ).1 = x at *
      generalize (compP S τ).2 = τ' at *
      replace hF := Hid.mk hF
      replace h := Hid.mk h
      replace hg := Hid.mk hg
      replace hO2 := Hid.mk hO2
      replace hL := Hid.mk hL
      have hsz := Hid.mk hg.out.size
      go_wp2_with fail
      refine c1.mono ?_
      rintro z w1 ⟨ra, rc, ka, kc, rfl, hn1, hn2, h1, hg1⟩
      obtain ⟨hO, hE⟩ := hO2.out w1 hg1
      have hN : CompC w.heap.size w1 [.slice ra x.roots.length rc, .slice ka x.code.length kc] x := ⟨ra, rc, ka, kc, rfl, own_base hn1 hsz.out, own_base hn2 hsz.out⟩
      replace hg := Hid.mk (hg.out.trans hg1)
      clear hg1 h hO2 c1 hc hn1 hn2
      have ⟨z0, p0, f0⟩ := (h1.alloc (.cells #[.slice ra x.roots.length rc, .slice ka x.code.length kc] 57)).at
      have hG : Gr w1 ((w1.alloc (.cells #[.slice ra x.roots.length rc, .slice ka x.code.length kc] 57)).alloc (.cells #[.slice ra x.roots.length rc, .slice ka x.code.length kc] 57)) := ((Gr.refl w1).alloc _).alloc _
      by_cases he : τ'.e = 0
      · have he' : (τ'.e != 0) = false := by simpa using he
        replace hF := Hid.mk ((if_pos he).symm.trans hF.out)
        have hA : At ((w1.alloc (.cells #[.slice ra x.roots.length rc, .slice ka x.code.length kc] 57)).alloc (.cells #[.slice ra x.roots.length rc, .slice ka x.code.length kc] 57)) (w1.heap.size + 1) [Value.slice ra x.roots.length rc, .slice ka x.code.length kc].toArray := At.next _ _ _ _
        replace hO := Hid.mk (own_below hO hG.below)
        replace hE := Hid.mk ((hE.snoc hN).imp fun _ _ q => q.step (grown_of hG.below none) (nes_none _))
        replace h1 := Hid.mk (h1.gr hG)
        replace hg := Hid.mk (hg.out.trans (grown_of hG.below _))
        have hs := Hid.mk hg.out.size
        replace hA := Hid.mk hA
        replace he := Hid.mk he
        clear hG hN
        go_wp2_with (at_builtin; refine wpList_append_el rfl (.tmp 19) (.tmp 21) 24 57 _ 2 48 rfl Tryd.underlying24 infoComp rfl (by decide) (by decide) w.heap.size (.slice la L.length lc) L.length css.flatten [Value.slice ra x.roots.length rc, .slice ka x.code.length kc] rfl hO.out (w1.heap.size + 1) rfl hA.out rfl (by simp [Value.oneCell']) (by have := hL.out; omega) hs.out ?_)
        intro g c w5 hrow hgr
        have hk5 := own_ne hO.out h1.out (by decide)
        replace hE := Hid.mk (hE.out.imp fun _ _ q => q.step hgr (nes_own hO.out (by decide) (by decide) (by decide) (by decide)))
        replace h1 := Hid.mk (Box.keptRow h1.out hgr hk5)
        replace hg := Hid.mk (hg.out.andThen hgr (fun i hq => .inl (own_block hO.out i hq).1))
        replace hrow := Hid.mk hrow
        clear hgr z0 p0 f0 hO hk5
        go_wp2_with fail
        go_roundw
        case rel => exact ⟨j + 1, css ++ [[.slice ra x.roots.length rc, .slice ka x.code.length kc]], L ++ [x], τ', by simp, by omega, ⟨by rw [List.length_append, flat_snoc2]; exact hrow.out, hE.out, by rw [List.length_append, hL.out]; rfl, h1.out, hi1, hg.out, by rw [hq2]; exact hF.out⟩⟩
        case measure => simp [intOf]; omega
      · have he' : (τ'.e != 0) = true := by simpa using he
        replace hF := Hid.mk ((if_neg he).symm.trans hF.out)
        replace he := Hid.mk he
        replace h1 := Hid.mk (h1.alloc (.cells #[.slice ra x.roots.length rc, .slice ka x.code.length kc] 57))
        replace hg := Hid.mk (hg.out.trans (grown_of ((Gr.refl w1).alloc (.cells #[.slice ra x.roots.length rc, .slice ka x.code.length kc] 57)).below _))
        clear hG hO hE hN
        go_wp2_with fail
        go_ret
        refine ⟨_, rfl, [], ?_⟩
        rw [← hF.out]
        exact ⟨⟨rfl, .inl ⟨rfl, rfl⟩⟩, trivial, h1.out, hg.out⟩
    · have jl : ¬ (j : Int) < n := by omega
      have hq : n - j = 0 := by omega
      rw [hq, listF] at hF
      replace hF := Hid.mk hF
      replace hO := Hid.mk hO
      replace hE := Hid.mk hE
      replace h := Hid.mk h
      replace hg := Hid.mk hg
      clear hc hL
      go_wp2_with fail
      go_ret
      refine ⟨_, rfl, css, ?_⟩
      rw [← hF.out]
      exact ⟨hO.out, hE.out, h.out, hg.out⟩
set_option maxRecDepth 10000 in
set_option maxHeartbeats 4000000 in
theorem listGate_any (S : List UInt8) (kr : Nat) (n : Nat) (σ : RS) (w : World) (h : RIn w kr S σ) (hi : σ.In S) (hS : S.length ≤ 1000000) (hn : n ≤ 65535) :
    Calls Tryd.prog 32 #[.pointer (some ⟨kr, 0, none⟩), .int .i64 n, .func (.func 33) #[.pointer (some ⟨kr, 0, none⟩)] #[]] w fun x w' => ∃ v, x = .returned v ∧ ∃ css, w'.ownsRow w.heap.size 61 4 v (listF (gateP S) n σ []).1.length css.flatten ∧ All2 (GateC w.heap.size w') css (listF (gateP S) n σ []).1 ∧ RIn w' kr S (listF (gateP S) n σ []).2 ∧ w.grownBy w' (some kr) := by
  have hc := fun σ W h1 h2 => rgate_any S kr σ W h1 h2 hS
  have hnn := Nat.le_refl n
  go_enter Tryd.func32, Tryd.ntmps32
  go_wp2_with fail
  go_loopw [7, 10] (fun l i wr => ∃ (j : Nat) (css : List (List Value)) (L : List PGate) (τ : RS), i = .int .i64 j ∧ j ≤ n ∧ Hid (wr.ownsRow w.heap.size 61 4 l L.length css.flatten ∧ All2 (GateC w.heap.size wr) css L ∧ L.length = j ∧ RIn wr kr S τ ∧ τ.In S ∧ w.grownBy wr (some kr) ∧ listF (gateP S) (n - j) τ L = listF (gateP S) n σ [])) (fun _ i _ => n - (intOf i).toNat)
  case atStart => exact ⟨0, [], [], σ, rfl, by omega, ⟨⟨rfl, .inl ⟨rfl, rfl⟩⟩, trivial, rfl, h, hi, grown_of (Below.refl _ _) _, rfl⟩⟩
  case round =>
    clear h hi
    obtain ⟨j, css, L, τ, rfl, hj, ⟨hO, hE, hL, h, hi, hg, hF⟩⟩ := hrel
    obtain ⟨la, lc, rfl⟩ := own_slice hO
    by_cases hlt : j < n
    · have jl : (j : Int) < n := by omega
      have c1 := hc τ wr h hi
      have hi1 := gateP_in hi
      obtain ⟨q, hq⟩ : ∃ q, n - j = q + 1 := ⟨n - j - 1, by omega⟩
      have hq2 : n - (j + 1) = q := by omega
      rw [hq, listF] at hF
      have hO2 : ∀ W, wr.grownBy W (some kr) → W.ownsRow w.heap.size 61 4 (.slice la L.length lc) L.length css.flatten ∧ All2 (GateC w.heap.size W) css L := fun W hW => ⟨own_kept hO hW (own_ne hO h (by decide)), hE.imp fun _ _ q => q.step hW (nes_box h (by decide) (by decide) (by decide) (by decide))⟩
      clear hO hE
      generalize (gateP S τ).1 = x at *
      generalize (gateP S τ).2 = τ' at *
      replace hF := Hid.mk hF
      replace h := Hid.mk h
      replace hg := Hid.mk hg
      replace hO2 := Hid.mk hO2
      replace hL := Hid.mk hL
      have hsz := Hid.mk hg.out.size
      go_wp2_with fail
      refine c1.mono ?_
      rintro z w1 ⟨xa, xc, ya, yc, rfl, hn1, hn2, h1, hg1⟩
      obtain ⟨hO, hE⟩ := hO2.out w1 hg1
      have hN : GateC w.heap.size w1 [.int .i64 x.c, .int .i64 x.e, .slice xa x.args.length xc, .slice ya x.res.length yc] x := ⟨xa, xc, ya, yc, rfl, own_base hn1 hsz.out, own_base hn2 hsz.out⟩
      replace hg := Hid.mk (hg.out.trans hg1)
      clear hg1 h hO2 c1 hc hn1 hn2
      have ⟨z0, p0, f0⟩ := (h1.alloc (.cells #[.int .i64 x.c, .int .i64 x.e, .slice xa x.args.length xc, .slice ya x.res.length yc] 61)).at
      have hG : Gr w1 ((w1.alloc (.cells #[.int .i64 x.c, .int .i64 x.e, .slice xa x.args.length xc, .slice ya x.res.length yc] 61)).alloc (.cells #[.int .i64 x.c, .int .i64 x.e, .slice xa x.args.length xc, .slice ya x.res.length yc] 61)) := ((Gr.refl w1).alloc _).alloc _
      by_cases he : τ'.e = 0
      · have he' : (τ'.e != 0) = false := by simpa using he
        replace hF := Hid.mk ((if_pos he).symm.trans hF.out)
        have hA : At ((w1.alloc (.cells #[.int .i64 x.c, .int .i64 x.e, .slice xa x.args.length xc, .slice ya x.res.length yc] 61)).alloc (.cells #[.int .i64 x.c, .int .i64 x.e, .slice xa x.args.length xc, .slice ya x.res.length yc] 61)) (w1.heap.size + 1) [Value.int .i64 x.c, .int .i64 x.e, .slice xa x.args.length xc, .slice ya x.res.length yc].toArray := At.next _ _ _ _
        replace hO := Hid.mk (own_below hO hG.below)
        replace hE := Hid.mk ((hE.snoc hN).imp fun _ _ q => q.step (grown_of hG.below none) (nes_none _))
        replace h1 := Hid.mk (h1.gr hG)
        replace hg := Hid.mk (hg.out.trans (grown_of hG.below _))
        have hs := Hid.mk hg.out.size
        replace hA := Hid.mk hA
        replace he := Hid.mk he
        clear hG hN
        go_wp2_with (at_builtin; refine wpList_append_el rfl (.tmp 19) (.tmp 21) 25 61 _ 4 64 rfl Tryd.underlying25 infoGate rfl (by decide) (by decide) w.heap.size (.slice la L.length lc) L.length css.flatten [Value.int .i64 x.c, .int .i64 x.e, .slice xa x.args.length xc, .slice ya x.res.length yc] rfl hO.out (w1.heap.size + 1) rfl hA.out rfl (by simp [Value.oneCell']) (by have := hL.out; omega) hs.out ?_)
        intro g c w5 hrow hgr
        have hk5 := own_ne hO.out h1.out (by decide)
        replace hE := Hid.mk (hE.out.imp fun _ _ q => q.step hgr (nes_own hO.out (by decide) (by decide) (by decide) (by decide)))
        replace h1 := Hid.mk (Box.keptRow h1.out hgr hk5)
        replace hg := Hid.mk (hg.out.andThen hgr (fun i hq => .inl (own_block hO.out i hq).1))
        replace hrow := Hid.mk hrow
        clear hgr z0 p0 f0 hO hk5
        go_wp2_with fail
        go_roundw
        case rel => exact ⟨j + 1, css ++ [[.int .i64 x.c, .int .i64 x.e, .slice xa x.args.length xc, .slice ya x.res.length yc]], L ++ [x], τ', by simp, by omega, ⟨by rw [List.length_append, flat_snoc2]; exact hrow.out, hE.out, by rw [List.length_append, hL.out]; rfl, h1.out, hi1, hg.out, by rw [hq2]; exact hF.out⟩⟩
        case measure => simp [intOf]; omega
      · have he' : (τ'.e != 0) = true := by simpa using he
        replace hF := Hid.mk ((if_neg he).symm.trans hF.out)
        replace he := Hid.mk he
        replace h1 := Hid.mk (h1.alloc (.cells #[.int .i64 x.c, .int .i64 x.e, .slice xa x.args.length xc, .slice ya x.res.length yc] 61))
        replace hg := Hid.mk (hg.out.trans (grown_of ((Gr.refl w1).alloc (.cells #[.int .i64 x.c, .int .i64 x.e, .slice xa x.args.length xc, .slice ya x.res.length yc] 61)).below _))
        clear hG hO hE hN
        go_wp2_with fail
        go_ret
        refine ⟨_, rfl, [], ?_⟩
        rw [← hF.out]
        exact ⟨⟨rfl, .inl ⟨rfl, rfl⟩⟩, trivial, h1.out, hg.out⟩
    · have jl : ¬ (j : Int) < n := by omega
      have hq : n - j = 0 := by omega
      rw [hq, listF] at hF
      replace hF := Hid.mk hF
      replace hO := Hid.mk hO
      replace hE := Hid.mk hE
      replace h := Hid.mk h
      replace hg := Hid.mk hg
      clear hc hL
      go_wp2_with fail
      go_ret
      refine ⟨_, rfl, css, ?_⟩
      rw [← hF.out]
      exact ⟨hO.out, hE.out, h.out, hg.out⟩
end Go.Proofs.YtdmkedpnkejpbaaDoor
