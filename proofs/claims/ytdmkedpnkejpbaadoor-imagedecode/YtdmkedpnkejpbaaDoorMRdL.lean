import Derived.Test.YtdmkedpnkejpbaaDoorMRdB
import Derived.Test.YtdmkedpnkejpbaaDoorP19
/-
  Stage 4, image: the reader's lists of types, slots and roots.
-/
namespace Go.Proofs.YtdmkedpnkejpbaaDoor
open Go.RowKit

theorem own_slice {w : World} {base e size n : Nat} {v : Value} {xs : List Value} (h : w.ownsRow base e size v n xs) : ∃ a c, v = .slice a n c := by
  rcases h.2 with ⟨rfl, h0⟩ | ⟨g, cap, cur, rfl, _⟩
  · exact ⟨none, 0, by rw [h0]⟩
  · exact ⟨_, cap, rfl⟩
theorem Box.keptRow {w w' : World} {k : Nat} {cs : Array Value} {t : TypeId} {row : Option Nat} (h : Box w k cs t) (hg : w.grownBy w' row) (hne : row ≠ some k) : Box w' k cs t := (hg.block k h.lt (fun e => hne e.symm)).trans h
set_option maxRecDepth 10000 in
set_option maxHeartbeats 2000000 in
theorem listType_any (S : List UInt8) (kr : Nat) (n : Nat) (σ : RS) (w : World) (h : RIn w kr S σ) (hi : σ.In S) (hS : S.length ≤ 140737488355328) (hn : n ≤ 65535) :
    Calls Tryd.prog 59 #[.pointer (some ⟨kr, 0, none⟩), .int .i64 n, .func (.func 60) #[.pointer (some ⟨kr, 0, none⟩)] #[]] w fun x w' => ∃ v, x = .returned v ∧ w'.ownsRow w.heap.size 88 7 v (listF (kindP S) n σ []).1.length ((listF (kindP S) n σ []).1.flatMap PTyp.vals) ∧ RIn w' kr S (listF (kindP S) n σ []).2 ∧ w.grownBy w' (some kr) := by
  have hc := fun σ W h1 h2 => rkind_any S kr σ W h1 h2 hS
  have hnn := Nat.le_refl n
  go_enter Tryd.func59, Tryd.ntmps59
  go_wp2_with fail
  go_loopw [7, 10] (fun l i wr => ∃ (j : Nat) (L : List PTyp) (τ : RS), i = .int .i64 j ∧ j ≤ n ∧ Hid (wr.ownsRow w.heap.size 88 7 l L.length (L.flatMap PTyp.vals) ∧ L.length = j ∧ RIn wr kr S τ ∧ τ.In S ∧ w.grownBy wr (some kr) ∧ listF (kindP S) (n - j) τ L = listF (kindP S) n σ [])) (fun _ i _ => n - (intOf i).toNat)
  case atStart => exact ⟨0, [], σ, rfl, by omega, ⟨⟨rfl, .inl ⟨rfl, rfl⟩⟩, rfl, h, hi, grown_of (Below.refl _ _) _, rfl⟩⟩
  case round =>
    clear h hi
    obtain ⟨j, L, τ, rfl, hj, ⟨hO, hL, h, hi, hg, hF⟩⟩ := hrel
    obtain ⟨la, lc, rfl⟩ := own_slice hO
    by_cases hlt : j < n
    · have jl : (j : Int) < n := by omega
      have c1 := hc τ wr h hi
      have hi1 := kindP_in hi
      obtain ⟨q, hq⟩ : ∃ q, n - j = q + 1 := ⟨n - j - 1, by omega⟩
      have hq2 : n - (j + 1) = q := by omega
      rw [hq, listF] at hF
      have hO2 : ∀ W, wr.grownBy W (some kr) → W.ownsRow w.heap.size 88 7 (.slice la L.length lc) L.length (L.flatMap PTyp.vals) := fun W hW => own_kept hO hW (own_ne hO h (by decide))
      clear hO
      generalize (kindP S τ).1 = x at *
      generalize (kindP S τ).2 = τ' at *
      replace hF := Hid.mk hF
      replace h := Hid.mk h
      replace hg := Hid.mk hg
      replace hO2 := Hid.mk hO2
      replace hL := Hid.mk hL
      go_wp2_with fail
      refine c1.mono ?_
      rintro z w1 ⟨rfl, h1, hg1⟩
      have hO := hO2.out w1 hg1
      replace hg := Hid.mk (hg.out.trans hg1)
      clear hg1 h hO2 c1 hc
      have ⟨z0, p0, f0⟩ := (h1.alloc (.cells #[.bool x.cap, .int .u64 x.b, .int .u64 x.e, .int .u64 x.lo, .int .u64 x.hi, .int .u8 x.p, .int .i64 x.s] 88)).at
      have hG : Gr w1 ((w1.alloc (.cells #[.bool x.cap, .int .u64 x.b, .int .u64 x.e, .int .u64 x.lo, .int .u64 x.hi, .int .u8 x.p, .int .i64 x.s] 88)).alloc (.cells #[.bool x.cap, .int .u64 x.b, .int .u64 x.e, .int .u64 x.lo, .int .u64 x.hi, .int .u8 x.p, .int .i64 x.s] 88)) := ((Gr.refl w1).alloc _).alloc _
      by_cases he : τ'.e = 0
      · have he' : (τ'.e != 0) = false := by simpa using he
        replace hF := Hid.mk ((if_pos he).symm.trans hF.out)
        have hA : At ((w1.alloc (.cells #[.bool x.cap, .int .u64 x.b, .int .u64 x.e, .int .u64 x.lo, .int .u64 x.hi, .int .u8 x.p, .int .i64 x.s] 88)).alloc (.cells #[.bool x.cap, .int .u64 x.b, .int .u64 x.e, .int .u64 x.lo, .int .u64 x.hi, .int .u8 x.p, .int .i64 x.s] 88)) (w1.heap.size + 1) [Value.bool x.cap, .int .u64 x.b, .int .u64 x.e, .int .u64 x.lo, .int .u64 x.hi, .int .u8 x.p, .int .i64 x.s].toArray := At.next _ _ _ _
        replace hO := Hid.mk (own_below hO hG.below)
        replace h1 := Hid.mk (h1.gr hG)
        replace hg := Hid.mk (hg.out.trans (grown_of hG.below _))
        have hs := Hid.mk hg.out.size
        replace hA := Hid.mk hA
        replace he := Hid.mk he
        clear hG
        go_wp2_with (at_builtin; refine wpList_append_el rfl (.tmp 19) (.tmp 21) 59 88 _ 7 56 rfl Tryd.underlying59 infoType rfl (by decide) (by decide) w.heap.size (.slice la L.length lc) L.length (L.flatMap PTyp.vals) [Value.bool x.cap, .int .u64 x.b, .int .u64 x.e, .int .u64 x.lo, .int .u64 x.hi, .int .u8 x.p, .int .i64 x.s] rfl hO.out (w1.heap.size + 1) rfl hA.out rfl (by simp [Value.oneCell']) (by have := hL.out; omega) hs.out ?_)
        intro g c w5 hrow hgr
        have hk5 := own_ne hO.out h1.out (by decide)
        replace h1 := Hid.mk (Box.keptRow h1.out hgr hk5)
        replace hg := Hid.mk (hg.out.andThen hgr (fun i hq => .inl (own_block hO.out i hq).1))
        replace hrow := Hid.mk hrow
        clear hgr z0 p0 f0 hO hk5
        go_wp2_with fail
        go_roundw
        case rel => exact ⟨j + 1, L ++ [x], τ', by simp, by omega, ⟨by rw [List.length_append, List.flatMap_append]; exact hrow.out, by rw [List.length_append, hL.out]; rfl, h1.out, hi1, hg.out, by rw [hq2]; exact hF.out⟩⟩
        case measure => simp [intOf]; omega
      · have he' : (τ'.e != 0) = true := by simpa using he
        replace hF := Hid.mk ((if_neg he).symm.trans hF.out)
        replace he := Hid.mk he
        replace h1 := Hid.mk (h1.alloc (.cells #[.bool x.cap, .int .u64 x.b, .int .u64 x.e, .int .u64 x.lo, .int .u64 x.hi, .int .u8 x.p, .int .i64 x.s] 88))
        replace hg := Hid.mk (hg.out.trans (grown_of ((Gr.refl w1).alloc (.cells #[.bool x.cap, .int .u64 x.b, .int .u64 x.e, .int .u64 x.lo, .int .u64 x.hi, .int .u8 x.p, .int .i64 x.s] 88)).below _))
        clear hG hO
        go_wp2_with fail
        go_ret
        refine ⟨_, rfl, ?_⟩
        rw [← hF.out]
        exact ⟨⟨rfl, .inl ⟨rfl, rfl⟩⟩, h1.out, hg.out⟩
    · have jl : ¬ (j : Int) < n := by omega
      have hq : n - j = 0 := by omega
      rw [hq, listF] at hF
      replace hF := Hid.mk hF
      replace hO := Hid.mk hO
      replace h := Hid.mk h
      replace hg := Hid.mk hg
      clear hc hL
      go_wp2_with fail
      go_ret
      refine ⟨_, rfl, ?_⟩
      rw [← hF.out]
      exact ⟨hO.out, h.out, hg.out⟩
set_option maxRecDepth 10000 in
set_option maxHeartbeats 2000000 in
theorem listSlot_any (S : List UInt8) (kr : Nat) (n : Nat) (σ : RS) (w : World) (h : RIn w kr S σ) (hi : σ.In S) (hS : S.length ≤ 140737488355328) (hn : n ≤ 65535) :
    Calls Tryd.prog 52 #[.pointer (some ⟨kr, 0, none⟩), .int .i64 n, .func (.func 53) #[.pointer (some ⟨kr, 0, none⟩)] #[]] w fun x w' => ∃ v, x = .returned v ∧ w'.ownsRow w.heap.size 91 8 v (listF (slotP S) n σ []).1.length ((listF (slotP S) n σ []).1.flatMap PSlot.vals) ∧ RIn w' kr S (listF (slotP S) n σ []).2 ∧ w.grownBy w' (some kr) := by
  have hc : ∀ σ W, RIn W kr S σ → σ.In S → Calls Tryd.prog 53 #[.pointer (some ⟨kr, 0, none⟩)] W fun x w' => x = .returned (.agg #[.bool (slotP S σ).1.t.cap, .int .u64 (slotP S σ).1.t.b, .int .u64 (slotP S σ).1.t.e, .int .u64 (slotP S σ).1.t.lo, .int .u64 (slotP S σ).1.t.hi, .int .u8 (slotP S σ).1.t.p, .int .i64 (slotP S σ).1.t.s, .int .u64 (slotP S σ).1.c]) ∧ RIn w' kr S (slotP S σ).2 ∧ W.grownBy w' (some kr) := fun σ W h1 h2 => rslot_any S kr σ W h1 h2 hS
  have hnn := Nat.le_refl n
  go_enter Tryd.func52, Tryd.ntmps52
  go_wp2_with fail
  go_loopw [7, 10] (fun l i wr => ∃ (j : Nat) (L : List PSlot) (τ : RS), i = .int .i64 j ∧ j ≤ n ∧ Hid (wr.ownsRow w.heap.size 91 8 l L.length (L.flatMap PSlot.vals) ∧ L.length = j ∧ RIn wr kr S τ ∧ τ.In S ∧ w.grownBy wr (some kr) ∧ listF (slotP S) (n - j) τ L = listF (slotP S) n σ [])) (fun _ i _ => n - (intOf i).toNat)
  case atStart => exact ⟨0, [], σ, rfl, by omega, ⟨⟨rfl, .inl ⟨rfl, rfl⟩⟩, rfl, h, hi, grown_of (Below.refl _ _) _, rfl⟩⟩
  case round =>
    clear h hi
    obtain ⟨j, L, τ, rfl, hj, ⟨hO, hL, h, hi, hg, hF⟩⟩ := hrel
    obtain ⟨la, lc, rfl⟩ := own_slice hO
    by_cases hlt : j < n
    · have jl : (j : Int) < n := by omega
      have c1 := hc τ wr h hi
      have hi1 := slotP_in hi
      obtain ⟨q, hq⟩ : ∃ q, n - j = q + 1 := ⟨n - j - 1, by omega⟩
      have hq2 : n - (j + 1) = q := by omega
      rw [hq, listF] at hF
      have hO2 : ∀ W, wr.grownBy W (some kr) → W.ownsRow w.heap.size 91 8 (.slice la L.length lc) L.length (L.flatMap PSlot.vals) := fun W hW => own_kept hO hW (own_ne hO h (by decide))
      clear hO
      generalize (slotP S τ).1 = x at *
      generalize (slotP S τ).2 = τ' at *
      replace hF := Hid.mk hF
      replace h := Hid.mk h
      replace hg := Hid.mk hg
      replace hO2 := Hid.mk hO2
      replace hL := Hid.mk hL
      go_wp2_with fail
      refine c1.mono ?_
      rintro z w1 ⟨rfl, h1, hg1⟩
      have hO := hO2.out w1 hg1
      replace hg := Hid.mk (hg.out.trans hg1)
      clear hg1 h hO2 c1 hc
      have ⟨z0, p0, f0⟩ := (h1.alloc (.cells #[.bool x.t.cap, .int .u64 x.t.b, .int .u64 x.t.e, .int .u64 x.t.lo, .int .u64 x.t.hi, .int .u8 x.t.p, .int .i64 x.t.s, .int .u64 x.c] 91)).at
      have hG : Gr w1 ((w1.alloc (.cells #[.bool x.t.cap, .int .u64 x.t.b, .int .u64 x.t.e, .int .u64 x.t.lo, .int .u64 x.t.hi, .int .u8 x.t.p, .int .i64 x.t.s, .int .u64 x.c] 91)).alloc (.cells #[.bool x.t.cap, .int .u64 x.t.b, .int .u64 x.t.e, .int .u64 x.t.lo, .int .u64 x.t.hi, .int .u8 x.t.p, .int .i64 x.t.s, .int .u64 x.c] 91)) := ((Gr.refl w1).alloc _).alloc _
      by_cases he : τ'.e = 0
      · have he' : (τ'.e != 0) = false := by simpa using he
        replace hF := Hid.mk ((if_pos he).symm.trans hF.out)
        have hA : At ((w1.alloc (.cells #[.bool x.t.cap, .int .u64 x.t.b, .int .u64 x.t.e, .int .u64 x.t.lo, .int .u64 x.t.hi, .int .u8 x.t.p, .int .i64 x.t.s, .int .u64 x.c] 91)).alloc (.cells #[.bool x.t.cap, .int .u64 x.t.b, .int .u64 x.t.e, .int .u64 x.t.lo, .int .u64 x.t.hi, .int .u8 x.t.p, .int .i64 x.t.s, .int .u64 x.c] 91)) (w1.heap.size + 1) [Value.bool x.t.cap, .int .u64 x.t.b, .int .u64 x.t.e, .int .u64 x.t.lo, .int .u64 x.t.hi, .int .u8 x.t.p, .int .i64 x.t.s, .int .u64 x.c].toArray := At.next _ _ _ _
        replace hO := Hid.mk (own_below hO hG.below)
        replace h1 := Hid.mk (h1.gr hG)
        replace hg := Hid.mk (hg.out.trans (grown_of hG.below _))
        have hs := Hid.mk hg.out.size
        replace hA := Hid.mk hA
        replace he := Hid.mk he
        clear hG
        go_wp2_with (at_builtin; refine wpList_append_el rfl (.tmp 19) (.tmp 21) 50 91 _ 8 64 rfl Tryd.underlying50 infoSlot rfl (by decide) (by decide) w.heap.size (.slice la L.length lc) L.length (L.flatMap PSlot.vals) [Value.bool x.t.cap, .int .u64 x.t.b, .int .u64 x.t.e, .int .u64 x.t.lo, .int .u64 x.t.hi, .int .u8 x.t.p, .int .i64 x.t.s, .int .u64 x.c] rfl hO.out (w1.heap.size + 1) rfl hA.out rfl (by simp [Value.oneCell']) (by have := hL.out; omega) hs.out ?_)
        intro g c w5 hrow hgr
        have hk5 := own_ne hO.out h1.out (by decide)
        replace h1 := Hid.mk (Box.keptRow h1.out hgr hk5)
        replace hg := Hid.mk (hg.out.andThen hgr (fun i hq => .inl (own_block hO.out i hq).1))
        replace hrow := Hid.mk hrow
        clear hgr z0 p0 f0 hO hk5
        go_wp2_with fail
        go_roundw
        case rel => exact ⟨j + 1, L ++ [x], τ', by simp, by omega, ⟨by rw [List.length_append, List.flatMap_append]; exact hrow.out, by rw [List.length_append, hL.out]; rfl, h1.out, hi1, hg.out, by rw [hq2]; exact hF.out⟩⟩
        case measure => simp [intOf]; omega
      · have he' : (τ'.e != 0) = true := by simpa using he
        replace hF := Hid.mk ((if_neg he).symm.trans hF.out)
        replace he := Hid.mk he
        replace h1 := Hid.mk (h1.alloc (.cells #[.bool x.t.cap, .int .u64 x.t.b, .int .u64 x.t.e, .int .u64 x.t.lo, .int .u64 x.t.hi, .int .u8 x.t.p, .int .i64 x.t.s, .int .u64 x.c] 91))
        replace hg := Hid.mk (hg.out.trans (grown_of ((Gr.refl w1).alloc (.cells #[.bool x.t.cap, .int .u64 x.t.b, .int .u64 x.t.e, .int .u64 x.t.lo, .int .u64 x.t.hi, .int .u8 x.t.p, .int .i64 x.t.s, .int .u64 x.c] 91)).below _))
        clear hG hO
        go_wp2_with fail
        go_ret
        refine ⟨_, rfl, ?_⟩
        rw [← hF.out]
        exact ⟨⟨rfl, .inl ⟨rfl, rfl⟩⟩, h1.out, hg.out⟩
    · have jl : ¬ (j : Int) < n := by omega
      have hq : n - j = 0 := by omega
      rw [hq, listF] at hF
      replace hF := Hid.mk hF
      replace hO := Hid.mk hO
      replace h := Hid.mk h
      replace hg := Hid.mk hg
      clear hc hL
      go_wp2_with fail
      go_ret
      refine ⟨_, rfl, ?_⟩
      rw [← hF.out]
      exact ⟨hO.out, h.out, hg.out⟩
set_option maxRecDepth 10000 in
set_option maxHeartbeats 2000000 in
theorem listRoot_any (S : List UInt8) (kr : Nat) (n : Nat) (σ : RS) (w : World) (h : RIn w kr S σ) (hi : σ.In S) (hS : S.length ≤ 140737488355328) (hn : n ≤ 65535) :
    Calls Tryd.prog 56 #[.pointer (some ⟨kr, 0, none⟩), .int .i64 n, .func (.func 57) #[.pointer (some ⟨kr, 0, none⟩)] #[]] w fun x w' => ∃ v, x = .returned v ∧ w'.ownsRow w.heap.size 93 6 v (listF (rootP S) n σ []).1.length ((listF (rootP S) n σ []).1.flatMap PRoot.vals) ∧ RIn w' kr S (listF (rootP S) n σ []).2 ∧ w.grownBy w' (some kr) := by
  have hc : ∀ σ W, RIn W kr S σ → σ.In S → Calls Tryd.prog 57 #[.pointer (some ⟨kr, 0, none⟩)] W fun x w' => x = .returned (.agg #[.int .i64 (rootP S σ).1.r, .int .u64 (rootP S σ).1.b, .int .u64 (rootP S σ).1.e, .int .u64 (rootP S σ).1.c, .int .u8 (rootP S σ).1.p, .int .i64 (rootP S σ).1.s]) ∧ RIn w' kr S (rootP S σ).2 ∧ W.grownBy w' (some kr) := fun σ W h1 h2 => rroot_any S kr σ W h1 h2 hS
  have hnn := Nat.le_refl n
  go_enter Tryd.func56, Tryd.ntmps56
  go_wp2_with fail
  go_loopw [7, 10] (fun l i wr => ∃ (j : Nat) (L : List PRoot) (τ : RS), i = .int .i64 j ∧ j ≤ n ∧ Hid (wr.ownsRow w.heap.size 93 6 l L.length (L.flatMap PRoot.vals) ∧ L.length = j ∧ RIn wr kr S τ ∧ τ.In S ∧ w.grownBy wr (some kr) ∧ listF (rootP S) (n - j) τ L = listF (rootP S) n σ [])) (fun _ i _ => n - (intOf i).toNat)
  case atStart => exact ⟨0, [], σ, rfl, by omega, ⟨⟨rfl, .inl ⟨rfl, rfl⟩⟩, rfl, h, hi, grown_of (Below.refl _ _) _, rfl⟩⟩
  case round =>
    clear h hi
    obtain ⟨j, L, τ, rfl, hj, ⟨hO, hL, h, hi, hg, hF⟩⟩ := hrel
    obtain ⟨la, lc, rfl⟩ := own_slice hO
    by_cases hlt : j < n
    · have jl : (j : Int) < n := by omega
      have c1 := hc τ wr h hi
      have hi1 := rootP_in hi
      obtain ⟨q, hq⟩ : ∃ q, n - j = q + 1 := ⟨n - j - 1, by omega⟩
      have hq2 : n - (j + 1) = q := by omega
      rw [hq, listF] at hF
      have hO2 : ∀ W, wr.grownBy W (some kr) → W.ownsRow w.heap.size 93 6 (.slice la L.length lc) L.length (L.flatMap PRoot.vals) := fun W hW => own_kept hO hW (own_ne hO h (by decide))
      clear hO
      generalize (rootP S τ).1 = x at *
      generalize (rootP S τ).2 = τ' at *
      replace hF := Hid.mk hF
      replace h := Hid.mk h
      replace hg := Hid.mk hg
      replace hO2 := Hid.mk hO2
      replace hL := Hid.mk hL
      go_wp2_with fail
      refine c1.mono ?_
      rintro z w1 ⟨rfl, h1, hg1⟩
      have hO := hO2.out w1 hg1
      replace hg := Hid.mk (hg.out.trans hg1)
      clear hg1 h hO2 c1 hc
      have ⟨z0, p0, f0⟩ := (h1.alloc (.cells #[.int .i64 x.r, .int .u64 x.b, .int .u64 x.e, .int .u64 x.c, .int .u8 x.p, .int .i64 x.s] 93)).at
      have hG : Gr w1 ((w1.alloc (.cells #[.int .i64 x.r, .int .u64 x.b, .int .u64 x.e, .int .u64 x.c, .int .u8 x.p, .int .i64 x.s] 93)).alloc (.cells #[.int .i64 x.r, .int .u64 x.b, .int .u64 x.e, .int .u64 x.c, .int .u8 x.p, .int .i64 x.s] 93)) := ((Gr.refl w1).alloc _).alloc _
      by_cases he : τ'.e = 0
      · have he' : (τ'.e != 0) = false := by simpa using he
        replace hF := Hid.mk ((if_pos he).symm.trans hF.out)
        have hA : At ((w1.alloc (.cells #[.int .i64 x.r, .int .u64 x.b, .int .u64 x.e, .int .u64 x.c, .int .u8 x.p, .int .i64 x.s] 93)).alloc (.cells #[.int .i64 x.r, .int .u64 x.b, .int .u64 x.e, .int .u64 x.c, .int .u8 x.p, .int .i64 x.s] 93)) (w1.heap.size + 1) [Value.int .i64 x.r, .int .u64 x.b, .int .u64 x.e, .int .u64 x.c, .int .u8 x.p, .int .i64 x.s].toArray := At.next _ _ _ _
        replace hO := Hid.mk (own_below hO hG.below)
        replace h1 := Hid.mk (h1.gr hG)
        replace hg := Hid.mk (hg.out.trans (grown_of hG.below _))
        have hs := Hid.mk hg.out.size
        replace hA := Hid.mk hA
        replace he := Hid.mk he
        clear hG
        go_wp2_with (at_builtin; refine wpList_append_el rfl (.tmp 19) (.tmp 21) 54 93 _ 6 48 rfl Tryd.underlying54 infoRoot rfl (by decide) (by decide) w.heap.size (.slice la L.length lc) L.length (L.flatMap PRoot.vals) [Value.int .i64 x.r, .int .u64 x.b, .int .u64 x.e, .int .u64 x.c, .int .u8 x.p, .int .i64 x.s] rfl hO.out (w1.heap.size + 1) rfl hA.out rfl (by simp [Value.oneCell']) (by have := hL.out; omega) hs.out ?_)
        intro g c w5 hrow hgr
        have hk5 := own_ne hO.out h1.out (by decide)
        replace h1 := Hid.mk (Box.keptRow h1.out hgr hk5)
        replace hg := Hid.mk (hg.out.andThen hgr (fun i hq => .inl (own_block hO.out i hq).1))
        replace hrow := Hid.mk hrow
        clear hgr z0 p0 f0 hO hk5
        go_wp2_with fail
        go_roundw
        case rel => exact ⟨j + 1, L ++ [x], τ', by simp, by omega, ⟨by rw [List.length_append, List.flatMap_append]; exact hrow.out, by rw [List.length_append, hL.out]; rfl, h1.out, hi1, hg.out, by rw [hq2]; exact hF.out⟩⟩
        case measure => simp [intOf]; omega
      · have he' : (τ'.e != 0) = true := by simpa using he
        replace hF := Hid.mk ((if_neg he).symm.trans hF.out)
        replace he := Hid.mk he
        replace h1 := Hid.mk (h1.alloc (.cells #[.int .i64 x.r, .int .u64 x.b, .int .u64 x.e, .int .u64 x.c, .int .u8 x.p, .int .i64 x.s] 93))
        replace hg := Hid.mk (hg.out.trans (grown_of ((Gr.refl w1).alloc (.cells #[.int .i64 x.r, .int .u64 x.b, .int .u64 x.e, .int .u64 x.c, .int .u8 x.p, .int .i64 x.s] 93)).below _))
        clear hG hO
        go_wp2_with fail
        go_ret
        refine ⟨_, rfl, ?_⟩
        rw [← hF.out]
        exact ⟨⟨rfl, .inl ⟨rfl, rfl⟩⟩, h1.out, hg.out⟩
    · have jl : ¬ (j : Int) < n := by omega
      have hq : n - j = 0 := by omega
      rw [hq, listF] at hF
      replace hF := Hid.mk hF
      replace hO := Hid.mk hO
      replace h := Hid.mk h
      replace hg := Hid.mk hg
      clear hc hL
      go_wp2_with fail
      go_ret
      refine ⟨_, rfl, ?_⟩
      rw [← hF.out]
      exact ⟨hO.out, h.out, hg.out⟩
end Go.Proofs.YtdmkedpnkejpbaaDoor
