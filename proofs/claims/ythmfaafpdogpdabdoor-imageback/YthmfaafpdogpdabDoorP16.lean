import Derived.Test.YthmfaafpdogpdabDoorP15
import Derived.Test.YthmfaafpdogpdabDoorP13
/-
  Stage 4, image: the reader's lists of types, slots and roots.
-/
namespace Go.Proofs.YthmfaafpdogpdabDoor
open Go.RowKit

theorem own_slice {w : World} {base e size n : Nat} {v : Value} {xs : List Value} (h : w.ownsRow base e size v n xs) : ∃ a c, v = .slice a n c := by
  rcases h.2 with ⟨rfl, h0⟩ | ⟨g, cap, cur, rfl, _⟩
  · exact ⟨none, 0, by rw [h0]⟩
  · exact ⟨_, cap, rfl⟩
theorem Box.keptRow {w w' : World} {k : Nat} {cs : Array Value} {t : TypeId} {row : Option Nat} (h : Box w k cs t) (hg : w.grownBy w' row) (hne : row ≠ some k) : Box w' k cs t := (hg.block k h.lt (fun e => hne e.symm)).trans h
theorem infoType : (Tryd.prog.info? 82).map (fun i => (i.zero, i.size, i.bytes)) = some (some (.agg #[.bool false, .int .u64 0, .int .u64 0, .int .u64 0, .int .u64 0, .int .u8 0, .int .i64 0]), 7, 56) := by kernel_rfl
theorem infoSlot : (Tryd.prog.info? 84).map (fun i => (i.zero, i.size, i.bytes)) = some (some (.agg #[.bool false, .int .u64 0, .int .u64 0, .int .u64 0, .int .u64 0, .int .u8 0, .int .i64 0, .int .u64 0]), 8, 64) := by kernel_rfl
theorem infoRoot : (Tryd.prog.info? 76).map (fun i => (i.zero, i.size, i.bytes)) = some (some (.agg #[.int .i64 0, .int .u64 0, .int .u64 0, .int .u64 0, .int .u8 0, .int .i64 0]), 6, 48) := by kernel_rfl
set_option maxRecDepth 10000 in
set_option maxHeartbeats 2000000 in
theorem listType_any (S : List UInt8) (kr : Nat) (n : Nat) (σ : RS) (w : World) (h : RIn w kr S σ) (hi : σ.In S) (hS : S.length ≤ 140737488355328) (hn : n ≤ 65535) :
    Calls Tryd.prog 112 #[.pointer (some ⟨kr, 0, none⟩), .int .i64 n, .func (.func 113) #[.pointer (some ⟨kr, 0, none⟩)] #[]] w fun x w' => ∃ v, x = .returned v ∧ w'.ownsRow w.heap.size 82 7 v (listF (kindP S) n σ []).1.length ((listF (kindP S) n σ []).1.flatMap PTyp.vals) ∧ RIn w' kr S (listF (kindP S) n σ []).2 ∧ w.grownBy w' (some kr) := by
  have hc := fun σ W h1 h2 => rkind_any S kr σ W h1 h2 hS
  have hnn := Nat.le_refl n
  go_enter Tryd.func112, Tryd.ntmps112
  go_wp2_with fail
  go_loopw [7, 10] (fun l i wr => ∃ (j : Nat) (L : List PTyp) (τ : RS), i = .int .i64 j ∧ j ≤ n ∧ Hid (wr.ownsRow w.heap.size 82 7 l L.length (L.flatMap PTyp.vals) ∧ L.length = j ∧ RIn wr kr S τ ∧ τ.In S ∧ w.grownBy wr (some kr) ∧ listF (kindP S) (n - j) τ L = listF (kindP S) n σ [])) (fun _ i _ => n - (intOf i).toNat)
  case atStart => exact ⟨0, [], σ, rfl, by omega, ⟨⟨rfl, .inl ⟨rfl, rfl⟩⟩, rfl, h, hi, grown_of (Below.refl _ _) _, rfl⟩⟩
  case round =>
    clear h hi
    obtain ⟨j, L, τ, rfl, hj, ⟨hO, hL, h, hi, hg, hF⟩⟩ := hrel
    obtain ⟨la, lc, rfl⟩ := own_slice hO
    by_cases hlt : j < n
    · have jl : (j : Int) < n := by omega
      have c1 := hc τ wr h hi
      have hi1 := kindP_in hi
      obtain ⟨q, hq⟩ : ∃ q, n - j = q + 1 := ⟨n - j - 1, by omega⟩
      have hq2 : n - (j + 1) = q := by omega
      rw [hq, listF] at hF
      have hO2 : ∀ W, wr.grownBy W (some kr) → W.ownsRow w.heap.size 82 7 (.slice la L.length lc) L.length (L.flatMap PTyp.vals) := fun W hW => own_kept hO hW (own_ne hO h (by decide))
      clear hO
      generalize (kindP S τ).1 = x at *
      generalize (kindP S τ).2 = τ' at *
      replace hF := Hid.mk hF
      replace h := Hid.mk h
      replace hg := Hid.mk hg
      replace hO2 := Hid.mk hO2
      replace hL := Hid.mk hL
      go_wp2_with fail
      refine c1.mono ?_
      rintro z w1 ⟨rfl, h1, hg1⟩
      have hO := hO2.out w1 hg1
      replace hg := Hid.mk (hg.out.trans hg1)
      clear hg1 h hO2 c1 hc
      have ⟨z0, p0, f0⟩ := (h1.alloc (.cells #[.bool x.cap, .int .u64 x.b, .int .u64 x.e, .int .u64 x.lo, .int .u64 x.hi, .int .u8 x.p, .int .i64 x.s] 82)).at
      have hG : Gr w1 ((w1.alloc (.cells #[.bool x.cap, .int .u64 x.b, .int .u64 x.e, .int .u64 x.lo, .int .u64 x.hi, .int .u8 x.p, .int .i64 x.s] 82)).alloc (.cells #[.bool x.cap, .int .u64 x.b, .int .u64 x.e, .int .u64 x.lo, .int .u64 x.hi, .int .u8 x.p, .int .i64 x.s] 82)) := ((Gr.refl w1).alloc _).alloc _
      by_cases he : τ'.e = 0
      · have he' : (τ'.e != 0) = false := by simpa using he
        replace hF := Hid.mk ((if_pos he).symm.trans hF.out)
        have hA : At ((w1.alloc (.cells #[.bool x.cap, .int .u64 x.b, .int .u64 x.e, .int .u64 x.lo, .int .u64 x.hi, .int .u8 x.p, .int .i64 x.s] 82)).alloc (.cells #[.bool x.cap, .int .u64 x.b, .int .u64 x.e, .int .u64 x.lo, .int .u64 x.hi, .int .u8 x.p, .int .i64 x.s] 82)) (w1.heap.size + 1) [Value.bool x.cap, .int .u64 x.b, .int .u64 x.e, .int .u64 x.lo, .int .u64 x.hi, .int .u8 x.p, .int .i64 x.s].toArray := At.next _ _ _ _
        replace hO := Hid.mk (own_below hO hG.below)
        replace h1 := Hid.mk (h1.gr hG)
        replace hg := Hid.mk (hg.out.trans (grown_of hG.below _))
        have hs := Hid.mk hg.out.size
        replace hA := Hid.mk hA
        replace he := Hid.mk he
        clear hG
        go_wp2_with (at_builtin; refine wpList_append_el rfl (.tmp 19) (.tmp 21) 64 82 _ 7 56 rfl Tryd.underlying64 infoType rfl (by decide) (by decide) w.heap.size (.slice la L.length lc) L.length (L.flatMap PTyp.vals) [Value.bool x.cap, .int .u64 x.b, .int .u64 x.e, .int .u64 x.lo, .int .u64 x.hi, .int .u8 x.p, .int .i64 x.s] rfl hO.out (w1.heap.size + 1) rfl hA.out rfl (by simp [Value.oneCell']) (by have := hL.out; omega) hs.out ?_)
        intro g c w5 hrow hgr
        have hk5 := own_ne hO.out h1.out (by decide)
        replace h1 := Hid.mk (Box.keptRow h1.out hgr hk5)
        replace hg := Hid.mk (hg.out.andThen hgr (fun i hq => .inl (own_block hO.out i hq).1))
        replace hrow := Hid.mk hrow
        clear hgr z0 p0 f0 hO hk5
        go_wp2_with fail
        go_roundw
        case rel => exact ⟨j + 1, L ++ [x], τ', by simp, by omega, ⟨by rw [List.length_append, List.flatMap_append]; exact hrow.out, by rw [List.length_append, hL.out]; rfl, h1.out, hi1, hg.out, by rw [hq2]; exact hF.out⟩⟩
        case measure => simp [intOf]; omega
      · have he' : (τ'.e != 0) = true := by simpa using he
        replace hF := Hid.mk ((if_neg he).symm.trans hF.out)
        replace he := Hid.mk he
        replace h1 := Hid.mk (h1.alloc (.cells #[.bool x.cap, .int .u64 x.b, .int .u64 x.e, .int .u64 x.lo, .int .u64 x.hi, .int .u8 x.p, .int .i64 x.s] 82))
        replace hg := Hid.mk (hg.out.trans (grown_of ((Gr.refl w1).alloc (.cells #[.bool x.cap, .int .u64 x.b, .int .u64 x.e, .int .u64 x.lo, .int .u64 x.hi, .int .u8 x.p, .int .i64 x.s] 82)).below _))
        clear hG hO
        go_wp2_with fail
        go_ret
        refine ⟨_, rfl, ?_⟩
        rw [← hF.out]
        exact ⟨⟨rfl, .inl ⟨rfl, rfl⟩⟩, h1.out, hg.out⟩
    · have jl : ¬ (j : Int) < n := by omega
      have hq : n - j = 0 := by omega
      rw [hq, listF] at hF
      replace hF := Hid.mk hF
      replace hO := Hid.mk hO
      replace h := Hid.mk h
      replace hg := Hid.mk hg
      clear hc hL
      go_wp2_with fail
      go_ret
      refine ⟨_, rfl, ?_⟩
      rw [← hF.out]
      exact ⟨hO.out, h.out, hg.out⟩
set_option maxRecDepth 10000 in
set_option maxHeartbeats 2000000 in
theorem listSlot_any (S : List UInt8) (kr : Nat) (n : Nat) (σ : RS) (w : World) (h : RIn w kr S σ) (hi : σ.In S) (hS : S.length ≤ 140737488355328) (hn : n ≤ 65535) :
    Calls Tryd.prog 106 #[.pointer (some ⟨kr, 0, none⟩), .int .i64 n, .func (.func 107) #[.pointer (some ⟨kr, 0, none⟩)] #[]] w fun x w' => ∃ v, x = .returned v ∧ w'.ownsRow w.heap.size 84 8 v (listF (slotP S) n σ []).1.length ((listF (slotP S) n σ []).1.flatMap PSlot.vals) ∧ RIn w' kr S (listF (slotP S) n σ []).2 ∧ w.grownBy w' (some kr) := by
  have hc : ∀ σ W, RIn W kr S σ → σ.In S → Calls Tryd.prog 107 #[.pointer (some ⟨kr, 0, none⟩)] W fun x w' => x = .returned (.agg #[.bool (slotP S σ).1.t.cap, .int .u64 (slotP S σ).1.t.b, .int .u64 (slotP S σ).1.t.e, .int .u64 (slotP S σ).1.t.lo, .int .u64 (slotP S σ).1.t.hi, .int .u8 (slotP S σ).1.t.p, .int .i64 (slotP S σ).1.t.s, .int .u64 (slotP S σ).1.c]) ∧ RIn w' kr S (slotP S σ).2 ∧ W.grownBy w' (some kr) := fun σ W h1 h2 => rslot_any S kr σ W h1 h2 hS
  have hnn := Nat.le_refl n
  go_enter Tryd.func106, Tryd.ntmps106
  go_wp2_with fail
  go_loopw [7, 10] (fun l i wr => ∃ (j : Nat) (L : List PSlot) (τ : RS), i = .int .i64 j ∧ j ≤ n ∧ Hid (wr.ownsRow w.heap.size 84 8 l L.length (L.flatMap PSlot.vals) ∧ L.length = j ∧ RIn wr kr S τ ∧ τ.In S ∧ w.grownBy wr (some kr) ∧ listF (slotP S) (n - j) τ L = listF (slotP S) n σ [])) (fun _ i _ => n - (intOf i).toNat)
  case atStart => exact ⟨0, [], σ, rfl, by omega, ⟨⟨rfl, .inl ⟨rfl, rfl⟩⟩, rfl, h, hi, grown_of (Below.refl _ _) _, rfl⟩⟩
  case round =>
    clear h hi
    obtain ⟨j, L, τ, rfl, hj, ⟨hO, hL, h, hi, hg, hF⟩⟩ := hrel
    obtain ⟨la, lc, rfl⟩ := own_slice hO
    by_cases hlt : j < n
    · have jl : (j : Int) < n := by omega
      have c1 := hc τ wr h hi
      have hi1 := slotP_in hi
      obtain ⟨q, hq⟩ : ∃ q, n - j = q + 1 := ⟨n - j - 1, by omega⟩
      have hq2 : n - (j + 1) = q := by omega
      rw [hq, listF] at hF
      have hO2 : ∀ W, wr.grownBy W (some kr) → W.ownsRow w.heap.size 84 8 (.slice la L.length lc) L.length (L.flatMap PSlot.vals) := fun W hW => own_kept hO hW (own_ne hO h (by decide))
      clear hO
      generalize (slotP S τ).1 = x at *
      generalize (slotP S τ).2 = τ' at *
      replace hF := Hid.mk hF
      replace h := Hid.mk h
      replace hg := Hid.mk hg
      replace hO2 := Hid.mk hO2
      replace hL := Hid.mk hL
      go_wp2_with fail
      refine c1.mono ?_
      rintro z w1 ⟨rfl, h1, hg1⟩
      have hO := hO2.out w1 hg1
      replace hg := Hid.mk (hg.out.trans hg1)
      clear hg1 h hO2 c1 hc
      have ⟨z0, p0, f0⟩ := (h1.alloc (.cells #[.bool x.t.cap, .int .u64 x.t.b, .int .u64 x.t.e, .int .u64 x.t.lo, .int .u64 x.t.hi, .int .u8 x.t.p, .int .i64 x.t.s, .int .u64 x.c] 84)).at
      have hG : Gr w1 ((w1.alloc (.cells #[.bool x.t.cap, .int .u64 x.t.b, .int .u64 x.t.e, .int .u64 x.t.lo, .int .u64 x.t.hi, .int .u8 x.t.p, .int .i64 x.t.s, .int .u64 x.c] 84)).alloc (.cells #[.bool x.t.cap, .int .u64 x.t.b, .int .u64 x.t.e, .int .u64 x.t.lo, .int .u64 x.t.hi, .int .u8 x.t.p, .int .i64 x.t.s, .int .u64 x.c] 84)) := ((Gr.refl w1).alloc _).alloc _
      by_cases he : τ'.e = 0
      · have he' : (τ'.e != 0) = false := by simpa using he
        replace hF := Hid.mk ((if_pos he).symm.trans hF.out)
        have hA : At ((w1.alloc (.cells #[.bool x.t.cap, .int .u64 x.t.b, .int .u64 x.t.e, .int .u64 x.t.lo, .int .u64 x.t.hi, .int .u8 x.t.p, .int .i64 x.t.s, .int .u64 x.c] 84)).alloc (.cells #[.bool x.t.cap, .int .u64 x.t.b, .int .u64 x.t.e, .int .u64 x.t.lo, .int .u64 x.t.hi, .int .u8 x.t.p, .int .i64 x.t.s, .int .u64 x.c] 84)) (w1.heap.size + 1) [Value.bool x.t.cap, .int .u64 x.t.b, .int .u64 x.t.e, .int .u64 x.t.lo, .int .u64 x.t.hi, .int .u8 x.t.p, .int .i64 x.t.s, .int .u64 x.c].toArray := At.next _ _ _ _
        replace hO := Hid.mk (own_below hO hG.below)
        replace h1 := Hid.mk (h1.gr hG)
        replace hg := Hid.mk (hg.out.trans (grown_of hG.below _))
        have hs := Hid.mk hg.out.size
        replace hA := Hid.mk hA
        replace he := Hid.mk he
        clear hG
        go_wp2_with (at_builtin; refine wpList_append_el rfl (.tmp 19) (.tmp 21) 56 84 _ 8 64 rfl Tryd.underlying56 infoSlot rfl (by decide) (by decide) w.heap.size (.slice la L.length lc) L.length (L.flatMap PSlot.vals) [Value.bool x.t.cap, .int .u64 x.t.b, .int .u64 x.t.e, .int .u64 x.t.lo, .int .u64 x.t.hi, .int .u8 x.t.p, .int .i64 x.t.s, .int .u64 x.c] rfl hO.out (w1.heap.size + 1) rfl hA.out rfl (by simp [Value.oneCell']) (by have := hL.out; omega) hs.out ?_)
        intro g c w5 hrow hgr
        have hk5 := own_ne hO.out h1.out (by decide)
        replace h1 := Hid.mk (Box.keptRow h1.out hgr hk5)
        replace hg := Hid.mk (hg.out.andThen hgr (fun i hq => .inl (own_block hO.out i hq).1))
        replace hrow := Hid.mk hrow
        clear hgr z0 p0 f0 hO hk5
        go_wp2_with fail
        go_roundw
        case rel => exact ⟨j + 1, L ++ [x], τ', by simp, by omega, ⟨by rw [List.length_append, List.flatMap_append]; exact hrow.out, by rw [List.length_append, hL.out]; rfl, h1.out, hi1, hg.out, by rw [hq2]; exact hF.out⟩⟩
        case measure => simp [intOf]; omega
      · have he' : (τ'.e != 0) = true := by simpa using he
        replace hF := Hid.mk ((if_neg he).symm.trans hF.out)
        replace he := Hid.mk he
        replace h1 := Hid.mk (h1.alloc (.cells #[.bool x.t.cap, .int .u64 x.t.b, .int .u64 x.t.e, .int .u64 x.t.lo, .int .u64 x.t.hi, .int .u8 x.t.p, .int .i64 x.t.s, .int .u64 x.c] 84))
        replace hg := Hid.mk (hg.out.trans (grown_of ((Gr.refl w1).alloc (.cells #[.bool x.t.cap, .int .u64 x.t.b, .int .u64 x.t.e, .int .u64 x.t.lo, .int .u64 x.t.hi, .int .u8 x.t.p, .int .i64 x.t.s, .int .u64 x.c] 84)).below _))
        clear hG hO
        go_wp2_with fail
        go_ret
        refine ⟨_, rfl, ?_⟩
        rw [← hF.out]
        exact ⟨⟨rfl, .inl ⟨rfl, rfl⟩⟩, h1.out, hg.out⟩
    · have jl : ¬ (j : Int) < n := by omega
      have hq : n - j = 0 := by omega
      rw [hq, listF] at hF
      replace hF := Hid.mk hF
      replace hO := Hid.mk hO
      replace h := Hid.mk h
      replace hg := Hid.mk hg
      clear hc hL
      go_wp2_with fail
      go_ret
      refine ⟨_, rfl, ?_⟩
      rw [← hF.out]
      exact ⟨hO.out, h.out, hg.out⟩
set_option maxRecDepth 10000 in
set_option maxHeartbeats 2000000 in
theorem listRoot_any (S : List UInt8) (kr : Nat) (n : Nat) (σ : RS) (w : World) (h : RIn w kr S σ) (hi : σ.In S) (hS : S.length ≤ 140737488355328) (hn : n ≤ 65535) :
    Calls Tryd.prog 109 #[.pointer (some ⟨kr, 0, none⟩), .int .i64 n, .func (.func 110) #[.pointer (some ⟨kr, 0, none⟩)] #[]] w fun x w' => ∃ v, x = .returned v ∧ w'.ownsRow w.heap.size 76 6 v (listF (rootP S) n σ []).1.length ((listF (rootP S) n σ []).1.flatMap PRoot.vals) ∧ RIn w' kr S (listF (rootP S) n σ []).2 ∧ w.grownBy w' (some kr) := by
  have hc : ∀ σ W, RIn W kr S σ → σ.In S → Calls Tryd.prog 110 #[.pointer (some ⟨kr, 0, none⟩)] W fun x w' => x = .returned (.agg #[.int .i64 (rootP S σ).1.r, .int .u64 (rootP S σ).1.b, .int .u64 (rootP S σ).1.e, .int .u64 (rootP S σ).1.c, .int .u8 (rootP S σ).1.p, .int .i64 (rootP S σ).1.s]) ∧ RIn w' kr S (rootP S σ).2 ∧ W.grownBy w' (some kr) := fun σ W h1 h2 => rroot_any S kr σ W h1 h2 hS
  have hnn := Nat.le_refl n
  go_enter Tryd.func109, Tryd.ntmps109
  go_wp2_with fail
  go_loopw [7, 10] (fun l i wr => ∃ (j : Nat) (L : List PRoot) (τ : RS), i = .int .i64 j ∧ j ≤ n ∧ Hid (wr.ownsRow w.heap.size 76 6 l L.length (L.flatMap PRoot.vals) ∧ L.length = j ∧ RIn wr kr S τ ∧ τ.In S ∧ w.grownBy wr (some kr) ∧ listF (rootP S) (n - j) τ L = listF (rootP S) n σ [])) (fun _ i _ => n - (intOf i).toNat)
  case atStart => exact ⟨0, [], σ, rfl, by omega, ⟨⟨rfl, .inl ⟨rfl, rfl⟩⟩, rfl, h, hi, grown_of (Below.refl _ _) _, rfl⟩⟩
  case round =>
    clear h hi
    obtain ⟨j, L, τ, rfl, hj, ⟨hO, hL, h, hi, hg, hF⟩⟩ := hrel
    obtain ⟨la, lc, rfl⟩ := own_slice hO
    by_cases hlt : j < n
    · have jl : (j : Int) < n := by omega
      have c1 := hc τ wr h hi
      have hi1 := rootP_in hi
      obtain ⟨q, hq⟩ : ∃ q, n - j = q + 1 := ⟨n - j - 1, by omega⟩
      have hq2 : n - (j + 1) = q := by omega
      rw [hq, listF] at hF
      have hO2 : ∀ W, wr.grownBy W (some kr) → W.ownsRow w.heap.size 76 6 (.slice la L.length lc) L.length (L.flatMap PRoot.vals) := fun W hW => own_kept hO hW (own_ne hO h (by decide))
      clear hO
      generalize (rootP S τ).1 = x at *
      generalize (rootP S τ).2 = τ' at *
      replace hF := Hid.mk hF
      replace h := Hid.mk h
      replace hg := Hid.mk hg
      replace hO2 := Hid.mk hO2
      replace hL := Hid.mk hL
      go_wp2_with fail
      refine c1.mono ?_
      rintro z w1 ⟨rfl, h1, hg1⟩
      have hO := hO2.out w1 hg1
      replace hg := Hid.mk (hg.out.trans hg1)
      clear hg1 h hO2 c1 hc
      have ⟨z0, p0, f0⟩ := (h1.alloc (.cells #[.int .i64 x.r, .int .u64 x.b, .int .u64 x.e, .int .u64 x.c, .int .u8 x.p, .int .i64 x.s] 76)).at
      have hG : Gr w1 ((w1.alloc (.cells #[.int .i64 x.r, .int .u64 x.b, .int .u64 x.e, .int .u64 x.c, .int .u8 x.p, .int .i64 x.s] 76)).alloc (.cells #[.int .i64 x.r, .int .u64 x.b, .int .u64 x.e, .int .u64 x.c, .int .u8 x.p, .int .i64 x.s] 76)) := ((Gr.refl w1).alloc _).alloc _
      by_cases he : τ'.e = 0
      · have he' : (τ'.e != 0) = false := by simpa using he
        replace hF := Hid.mk ((if_pos he).symm.trans hF.out)
        have hA : At ((w1.alloc (.cells #[.int .i64 x.r, .int .u64 x.b, .int .u64 x.e, .int .u64 x.c, .int .u8 x.p, .int .i64 x.s] 76)).alloc (.cells #[.int .i64 x.r, .int .u64 x.b, .int .u64 x.e, .int .u64 x.c, .int .u8 x.p, .int .i64 x.s] 76)) (w1.heap.size + 1) [Value.int .i64 x.r, .int .u64 x.b, .int .u64 x.e, .int .u64 x.c, .int .u8 x.p, .int .i64 x.s].toArray := At.next _ _ _ _
        replace hO := Hid.mk (own_below hO hG.below)
        replace h1 := Hid.mk (h1.gr hG)
        replace hg := Hid.mk (hg.out.trans (grown_of hG.below _))
        have hs := Hid.mk hg.out.size
        replace hA := Hid.mk hA
        replace he := Hid.mk he
        clear hG
        go_wp2_with (at_builtin; refine wpList_append_el rfl (.tmp 19) (.tmp 21) 60 76 _ 6 48 rfl Tryd.underlying60 infoRoot rfl (by decide) (by decide) w.heap.size (.slice la L.length lc) L.length (L.flatMap PRoot.vals) [Value.int .i64 x.r, .int .u64 x.b, .int .u64 x.e, .int .u64 x.c, .int .u8 x.p, .int .i64 x.s] rfl hO.out (w1.heap.size + 1) rfl hA.out rfl (by simp [Value.oneCell']) (by have := hL.out; omega) hs.out ?_)
        intro g c w5 hrow hgr
        have hk5 := own_ne hO.out h1.out (by decide)
        replace h1 := Hid.mk (Box.keptRow h1.out hgr hk5)
        replace hg := Hid.mk (hg.out.andThen hgr (fun i hq => .inl (own_block hO.out i hq).1))
        replace hrow := Hid.mk hrow
        clear hgr z0 p0 f0 hO hk5
        go_wp2_with fail
        go_roundw
        case rel => exact ⟨j + 1, L ++ [x], τ', by simp, by omega, ⟨by rw [List.length_append, List.flatMap_append]; exact hrow.out, by rw [List.length_append, hL.out]; rfl, h1.out, hi1, hg.out, by rw [hq2]; exact hF.out⟩⟩
        case measure => simp [intOf]; omega
      · have he' : (τ'.e != 0) = true := by simpa using he
        replace hF := Hid.mk ((if_neg he).symm.trans hF.out)
        replace he := Hid.mk he
        replace h1 := Hid.mk (h1.alloc (.cells #[.int .i64 x.r, .int .u64 x.b, .int .u64 x.e, .int .u64 x.c, .int .u8 x.p, .int .i64 x.s] 76))
        replace hg := Hid.mk (hg.out.trans (grown_of ((Gr.refl w1).alloc (.cells #[.int .i64 x.r, .int .u64 x.b, .int .u64 x.e, .int .u64 x.c, .int .u8 x.p, .int .i64 x.s] 76)).below _))
        clear hG hO
        go_wp2_with fail
        go_ret
        refine ⟨_, rfl, ?_⟩
        rw [← hF.out]
        exact ⟨⟨rfl, .inl ⟨rfl, rfl⟩⟩, h1.out, hg.out⟩
    · have jl : ¬ (j : Int) < n := by omega
      have hq : n - j = 0 := by omega
      rw [hq, listF] at hF
      replace hF := Hid.mk hF
      replace hO := Hid.mk hO
      replace h := Hid.mk h
      replace hg := Hid.mk hg
      clear hc hL
      go_wp2_with fail
      go_ret
      refine ⟨_, rfl, ?_⟩
      rw [← hF.out]
      exact ⟨hO.out, h.out, hg.out⟩
end Go.Proofs.YthmfaafpdogpdabDoor


/-
  Stage 3, instr: code as bytes, there and back. No Go in sight.
-/
namespace Go.Proofs.YthmfaafpdogpdabDoor
open Go.RowKit

theorem fR_ranges (op a b c m : Int) (s : List UInt8) (hs : s ∈ shapes) (h : fR op s 0 a b c m = true) :
    (0 ≤ a ∧ a < 256) ∧ (0 ≤ b ∧ b < 256) ∧ (0 ≤ c ∧ c < 256) ∧ (-2147483648 ≤ m ∧ m ≤ 2147483647) := by
  simp only [shapes, List.mem_cons, List.not_mem_nil, or_false] at hs
  by_cases h28 : op = 28
  · rcases hs with rfl | rfl | rfl | rfl | rfl | rfl | rfl | rfl | rfl | rfl | rfl | rfl | rfl | rfl | rfl | rfl | rfl | rfl <;>
      (simp [fR, inE, hiE, loE, h28] at h; omega)
  · by_cases h70 : op = 70 ∨ op = 71
    · have e : ¬ (op ≠ 70 ∧ op ≠ 71) := by omega
      rcases hs with rfl | rfl | rfl | rfl | rfl | rfl | rfl | rfl | rfl | rfl | rfl | rfl | rfl | rfl | rfl | rfl | rfl | rfl <;>
        (simp [fR, inE, hiE, loE, h28, e] at h; omega)
    · have e : ¬ op = 70 ∧ ¬ op = 71 := by omega
      rcases hs with rfl | rfl | rfl | rfl | rfl | rfl | rfl | rfl | rfl | rfl | rfl | rfl | rfl | rfl | rfl | rfl | rfl | rfl <;>
        (simp [fR, inE, hiE, loE, h28, e] at h; omega)
theorem right_ranges {k : Ins} (h1 : k.op < 256) (h : k.right = 0) :
    (0 ≤ k.a ∧ k.a < 256) ∧ (0 ≤ k.b ∧ k.b < 256) ∧ (0 ≤ k.c ∧ k.c < 256) ∧ (-2147483648 ≤ k.m ∧ k.m ≤ 2147483647) := by
  unfold Ins.right rightF at h
  split at h
  · omega
  · unfold errOf at h
    split at h
    · rename_i hf
      exact fR_ranges _ _ _ _ _ _ (shape_in _ h1) hf
    · omega
theorem byte_back (n : Int) (h0 : 0 ≤ n) (h1 : n < 256) : ((UInt8.ofNat n.toNat).toNat : Int) = n := by
  rw [UInt8.toNat_ofNat']; omega
theorem ins_bytes {k : Ins} (h0 : 0 ≤ k.op) (h1 : k.op < 256) (h : k.right = 0) (R : List UInt8) : insOf (bytesOf k ++ R) = k := by
  obtain ⟨⟨a0, a1⟩, ⟨b0, b1⟩, ⟨c0, c1⟩, m0, m1⟩ := right_ranges h1 h
  have e0 : byteAt (bytesOf k ++ R) 0 = k.op := byte_back _ h0 h1
  have e1 : byteAt (bytesOf k ++ R) 1 = k.a := (byte_back (k.a % 256) (by omega) (by omega)).trans (by omega)
  have e2 : byteAt (bytesOf k ++ R) 2 = k.b := (byte_back (k.b % 256) (by omega) (by omega)).trans (by omega)
  have e3 : byteAt (bytesOf k ++ R) 3 = k.c := (byte_back (k.c % 256) (by omega) (by omega)).trans (by omega)
  have e4 : byteAt (bytesOf k ++ R) 4 = k.m % 256 := byte_back _ (by omega) (by omega)
  have e5 : byteAt (bytesOf k ++ R) 5 = k.m % 4294967296 / 256 % 256 := byte_back _ (by omega) (by omega)
  have e6 : byteAt (bytesOf k ++ R) 6 = k.m % 4294967296 / 65536 % 256 := byte_back _ (by omega) (by omega)
  have e7 : byteAt (bytesOf k ++ R) 7 = k.m % 4294967296 / 16777216 := byte_back _ (by omega) (by omega)
  unfold insOf
  rw [e0, e1, e2, e3, e4, e5, e6, e7]
  have : s32 (k.m % 256 + k.m % 4294967296 / 256 % 256 * 256 + k.m % 4294967296 / 65536 % 256 * 65536 + k.m % 4294967296 / 16777216 * 16777216) = k.m := by
    unfold s32; split <;> omega
  rw [this]
theorem u8_back (x : UInt8) : UInt8.ofNat ((x.toNat : Int)).toNat = x := by
  apply UInt8.toNat_inj.mp
  rw [UInt8.toNat_ofNat']
  have := x.toNat_lt
  omega
theorem bytesI_ins (S : List UInt8) : bytesI (insOf S) = [byteAt S 0, byteAt S 1, byteAt S 2, byteAt S 3, byteAt S 4, byteAt S 5, byteAt S 6, byteAt S 7] := by
  have r := byteAt_range S
  have r0 := r 0; have r1 := r 1; have r2 := r 2; have r3 := r 3; have r4 := r 4; have r5 := r 5; have r6 := r 6; have r7 := r 7
  clear r
  unfold bytesI insOf
  generalize byteAt S 0 = y0 at *
  generalize byteAt S 1 = y1 at *
  generalize byteAt S 2 = y2 at *
  generalize byteAt S 3 = y3 at *
  generalize byteAt S 4 = y4 at *
  generalize byteAt S 5 = y5 at *
  generalize byteAt S 6 = y6 at *
  generalize byteAt S 7 = y7 at *
  have hm : s32 (y4 + y5 * 256 + y6 * 65536 + y7 * 16777216) % 4294967296 = y4 + y5 * 256 + y6 * 65536 + y7 * 16777216 := by
    unfold s32; split <;> omega
  have h8 : s32 (y4 + y5 * 256 + y6 * 65536 + y7 * 16777216) % 256 = y4 := by omega
  simp only [hm, h8]
  have e1 : y1 % 256 = y1 := by omega
  have e2 : y2 % 256 = y2 := by omega
  have e3 : y3 % 256 = y3 := by omega
  have e5 : (y4 + y5 * 256 + y6 * 65536 + y7 * 16777216) / 256 % 256 = y5 := by omega
  have e6 : (y4 + y5 * 256 + y6 * 65536 + y7 * 16777216) / 65536 % 256 = y6 := by omega
  have e7 : (y4 + y5 * 256 + y6 * 65536 + y7 * 16777216) / 16777216 = y7 := by omega
  rw [e1, e2, e3, e5, e6, e7]
theorem of_byteAt (S : List UInt8) (i : Nat) : UInt8.ofNat (byteAt S i).toNat = S.getD i 0 := u8_back _
theorem bytes_ins (S : List UInt8) (h : 8 ≤ S.length) : bytesOf (insOf S) = S.take 8 := by
  unfold bytesOf
  rw [bytesI_ins]
  simp only [List.map_cons, List.map_nil, of_byteAt]
  match S, h with
  | _ :: _ :: _ :: _ :: _ :: _ :: _ :: _ :: _, _ => rfl
def AllR (L : List Ins) : Prop := ∀ k ∈ L, k.right = 0
def code (L : List Ins) : List UInt8 := L.flatMap bytesOf
theorem code_cons (k : Ins) (L : List Ins) : code (k :: L) = bytesOf k ++ code L := rfl
theorem code_app (L M : List Ins) : code (L ++ M) = code L ++ code M := by simp [code]
theorem code_length (L : List Ins) : (code L).length = 8 * L.length := by
  induction L with
  | nil => rfl
  | cons k L ih => rw [code_cons, List.length_append, ih, bytesOf_length, List.length_cons]; omega
theorem enc_all (L : List Ins) (h : AllR L) (j : Nat) (B : List UInt8) : encF L j B = (B ++ code L, 0, 0) := by
  induction L generalizing j B with
  | nil => simp [encF, code]
  | cons k L ih =>
    rw [encF, if_pos (h k (by simp)), ih (fun x hx => h x (by simp [hx])), code_cons, List.append_assoc]
theorem enc_ok (L : List Ins) (j : Nat) (B : List UInt8) (h : (encF L j B).2.1 = 0) : AllR L := by
  induction L generalizing j B with
  | nil => intro k hk; simp at hk
  | cons k L ih =>
    rw [encF] at h
    by_cases hk : k.right = 0
    · rw [if_pos hk] at h
      intro x hx
      rcases List.mem_cons.1 hx with rfl | hx
      · exact hk
      · exact ih _ _ h x hx
    · rw [if_neg hk] at h
      exact absurd h hk
theorem readE_code {k : Ins} (h0 : 0 ≤ k.op) (h1 : k.op < 256) (h : k.right = 0) (R : List UInt8) : readE (bytesOf k ++ R) = 0 := by
  unfold readE
  rw [if_neg (by rw [List.length_append, bytesOf_length]; omega), ins_bytes h0 h1 h R, h]
theorem drop_bytes (k : Ins) (R : List UInt8) : (bytesOf k ++ R).drop 8 = R := by
  rw [List.drop_append, bytesOf_length]; simp [bytesOf, bytesI]
theorem dec_code (L : List Ins) (h : AllR L) (ho : OpsIn L) (n j : Nat) (M : List Ins) (hn : L.length < n) : decF n (code L) j M = (M ++ L, 0, 0) := by
  induction L generalizing n j M with
  | nil =>
    cases n with
    | zero => simp [decF]
    | succ n => simp [decF, code]
  | cons k L ih =>
    cases n with
    | zero => omega
    | succ n =>
      have hk := h k (by simp)
      have hok := ho k (by simp)
      rw [code_cons, decF, if_neg (by simp [bytesOf, bytesI]), if_pos (readE_code hok.1 hok.2 hk _), drop_bytes, ins_bytes hok.1 hok.2 hk,
        ih (fun x hx => h x (by simp [hx])) (fun x hx => ho x (by simp [hx])) n _ _ (by simpa using hn), List.append_assoc]
      rfl
theorem dec_all (L : List Ins) (h : AllR L) (ho : OpsIn L) : decA (code L) = (L, 0, 0) := by
  unfold decA
  rw [dec_code L h ho _ _ _ (by rw [code_length]; omega)]
  rfl
theorem insOf_op (S : List UInt8) : 0 ≤ (insOf S).op ∧ (insOf S).op < 256 := byteAt_range S 0
theorem dec_ok (n : Nat) (S : List UInt8) (j : Nat) (M : List Ins) (hn : S.length < n) (h : (decF n S j M).2.1 = 0) :
    ∃ L, decF n S j M = (M ++ L, 0, 0) ∧ AllR L ∧ OpsIn L ∧ code L = S := by
  induction n generalizing S j M with
  | zero => omega
  | succ n ih =>
    rw [decF] at h ⊢
    by_cases hS : S = []
    · subst hS
      exact ⟨[], by simp, fun k hk => by simp at hk, fun k hk => by simp at hk, rfl⟩
    · rw [if_neg hS] at h ⊢
      by_cases he : readE S = 0
      · rw [if_pos he] at h ⊢
        have h8 := readE_len he
        obtain ⟨L, e, hA, hO, hc⟩ := ih (S.drop 8) (j + 8) (M ++ [insOf S]) (by rw [List.length_drop]; omega) h
        refine ⟨insOf S :: L, by rw [e, List.append_assoc]; rfl, ?_, ?_, ?_⟩
        · intro k hk
          rcases List.mem_cons.1 hk with rfl | hk
          · unfold readE at he; rw [if_neg (by omega)] at he; exact he
          · exact hA k hk
        · intro k hk
          rcases List.mem_cons.1 hk with rfl | hk
          · exact insOf_op S
          · exact hO k hk
        · rw [code_cons, bytes_ins S h8, hc, List.take_append_drop]
      · rw [if_neg he] at h
        exact absurd h he
theorem decA_ok {S : List UInt8} (h : (decA S).2.1 = 0) : ∃ L, decA S = (L, 0, 0) ∧ AllR L ∧ OpsIn L ∧ code L = S := by
  obtain ⟨L, e, r⟩ := dec_ok (S.length + 1) S 0 [] (by omega) h
  exact ⟨L, by unfold decA; simpa using e, r⟩
theorem dec_bad (n : Nat) (S : List UInt8) (j : Nat) (M : List Ins) (h : (decF n S j M).2.1 ≠ 0) :
    (decF n S j M).1 = [] ∧ ∃ m : Nat, (decF n S j M).2.2 = ((j + 8 * m : Nat) : Int) ∧ 8 * m < S.length := by
  induction n generalizing S j M with
  | zero => simp [decF] at h
  | succ n ih =>
    rw [decF] at h ⊢
    by_cases hS : S = []
    · rw [if_pos hS] at h; simp at h
    · rw [if_neg hS] at h ⊢
      by_cases he : readE S = 0
      · rw [if_pos he] at h ⊢
        have h8 := readE_len he
        obtain ⟨e1, m, e2, e3⟩ := ih _ _ _ h
        rw [List.length_drop] at e3
        exact ⟨e1, m + 1, by rw [e2]; congr 1; omega, by omega⟩
      · rw [if_neg he]
        have : 0 < S.length := List.length_pos_iff.mpr hS
        exact ⟨rfl, 0, rfl, by omega⟩
theorem decA_bad {S : List UInt8} (h : (decA S).2.1 ≠ 0) : (decA S).1 = [] ∧ ∃ m : Nat, (decA S).2.2 = ((8 * m : Nat) : Int) ∧ 8 * m < S.length := by
  obtain ⟨e, m, e2, e3⟩ := dec_bad (S.length + 1) S 0 [] h
  exact ⟨e, m, by unfold decA; rw [e2]; simp, e3⟩
end Go.Proofs.YthmfaafpdogpdabDoor


/-
  Stage 4, image: the reader's code, of any state.
-/
namespace Go.Proofs.YthmfaafpdogpdabDoor
open Go.RowKit

theorem decA_place (T : List UInt8) : 0 ≤ (decA T).2.2 ∧ (decA T).2.2 ≤ T.length := by
  by_cases h : (decA T).2.1 = 0
  · obtain ⟨L, e, _⟩ := decA_ok h
    rw [e]
    simp
  · obtain ⟨_, m, e, hm⟩ := decA_bad h
    rw [e]
    omega
theorem whole_le (S : List UInt8) (n : Nat) (σ : RS) : wholeN S n σ ≤ n ∧ wholeN S n σ * 8 ≤ S.length := by
  unfold wholeN; omega
set_option maxRecDepth 10000 in
set_option maxHeartbeats 4000000 in
theorem rcode_any (S : List UInt8) (kr : Nat) (n : Nat) (σ : RS) (w : World) (ht : TabIn w) (hk : 2 ≤ kr) (h : RIn w kr S σ) (hi : σ.In S) (hS : S.length ≤ 1000000) (hn : n ≤ 65535) :
    Calls Tryd.prog 111 #[.pointer (some ⟨kr, 0, none⟩), .int .i64 n] w fun x w' => ∃ v, x = .returned v ∧ LOwn w' w.heap.size v (codeP S n σ).1 ∧ RIn w' kr S (codeP S n σ).2 ∧ w.grownBy w' (some kr) := by
  have ss := str_size S
  obtain ⟨hw1, hw2⟩ := whole_le S n σ
  have hpl := decA_place (takeV S (wholeN S n σ * 8) σ)
  have hlen := takeV_len S (wholeN S n σ * 8) σ
  have hT := fun W h1 => take_any S kr (wholeN S n σ * 8) σ W h1 hi (by omega) (by omega)
  have hD := fun W h1 => Decode_any (takeV S (wholeN S n σ * 8) σ) W h1 (by unfold maxI; omega)
  have hF1 := fun W h1 => fail_any S kr (takeS S (wholeN S n σ * 8) σ) (decB S n σ).2.1 (σ.i + (decB S n σ).2.2) W h1
  have hF2 := fun W h1 => fail_any S kr (codeS1 S n σ) 41 S.length W h1
  unfold codeP
  have e1 : (min (n : Int) (((S.length : Int) - σ.i) / 8)) = (wholeN S n σ : Int) := by unfold wholeN RS.In at *; omega
  have e2 : codeS1 S n σ = if (decB S n σ).2.1 = 0 then takeS S (wholeN S n σ * 8) σ else failS (decB S n σ).2.1 (σ.i + (decB S n σ).2.2) (takeS S (wholeN S n σ * 8) σ) := rfl
  unfold RS.In at hi
  have hdB : decA (takeV S (wholeN S n σ * 8) σ) = decB S n σ := rfl
  rw [hdB] at hpl hD
  generalize wholeN S n σ = k at *
  generalize takeV S (k * 8) σ = X at *
  generalize takeS S (k * 8) σ = σ1 at *
  generalize decB S n σ = d at *
  generalize codeS1 S n σ = σ2 at *
  obtain ⟨L, e, p⟩ := d
  simp only at *
  have ek : ((k * 8 : Nat) : Int) = (k : Int) * 8 := by omega
  rw [ek] at hT
  have m0 : IntKind.i64.wrap ((k : Int) * 8) = (k : Int) * 8 := by rw [IntKind.wrap_i64]; omega
  have m1 : IntKind.i64.wrap ((σ.i : Int) + p) = (σ.i : Int) + p := by rw [IntKind.wrap_i64]; omega
  have m2 : IntKind.i64.wrap ((S.length : Int) - σ.i) = (S.length : Int) - σ.i := by rw [IntKind.wrap_i64]; omega
  have ⟨z0, p0, f0⟩ := h.at
  replace h := Hid.mk h
  have hTI : ∀ W, w.grownBy W (some kr) → TabIn W := fun W hg => ht.below (n := kr) (Below.of_grown hg (Nat.le_of_lt h.out.lt) (fun g e => by cases e; omega)) hk
  replace hTI := Hid.mk hTI
  clear hdB ht
  by_cases hlt : k < n
  · have q1 : ((S.length : Int) - σ.i) / 8 = (k : Int) := by omega
    have q2 : (k : Int) < n := by omega
    rw [if_pos hlt]
    replace e1 := Hid.mk e1
    by_cases he : e = 0
    · have he' : (e != 0) = false := by simpa using he
      rw [if_pos he] at e2
      subst e2
      replace he := Hid.mk he
      go_enter Tryd.func111, Tryd.ntmps111
      go_wp2_with fail
      refine (hT _ h.out).mono ?_
      rintro x w1 ⟨rfl, h1, hg⟩
      have ht1 := hTI.out _ hg
      clear z0 p0 f0 h hT
      replace h1 := Hid.mk h1
      replace hg := Hid.mk hg
      go_wp2_with fail
      refine (hD _ ht1).mono ?_
      rintro x w2 ⟨v, rfl, hO, hBe⟩
      replace h1 := h1.out.below hBe h1.out.lt
      replace hO := own_base hO hg.out.size
      replace hg := Hid.mk (hg.out.trans (grown_of hBe _))
      have hOk : ∀ W, w2.grownBy W (some kr) → LOwn W w.heap.size v L := fun W hW => own_kept hO hW (own_ne hO h1 (by decide))
      obtain ⟨va, vc, rfl⟩ := own_slice hO
      have ⟨z0, p0, f0⟩ := h1.at
      replace h1 : Hid (RIn w2 kr S _) := Hid.mk h1
      replace hO := Hid.mk hO
      replace hOk := Hid.mk hOk
      clear hBe hD ht1
      go_wp2_with fail
      refine (hF2 _ h1.out).mono ?_
      clear z0 p0 f0 h1 hO
      rintro x w4 ⟨rfl, h1, hg2⟩
      have hO := hOk.out _ hg2
      replace h1 : Hid (RIn w4 kr S _) := Hid.mk h1
      replace hg := Hid.mk (hg.out.trans hg2)
      replace hO := Hid.mk hO
      clear hg2 hOk
      go_wp2_with fail
      go_ret
      exact ⟨_, rfl, hO.out, h1.out, hg.out⟩
    
    · have he' : (e != 0) = true := by simpa using he
      rw [if_neg he] at e2
      subst e2
      replace he := Hid.mk he
      go_enter Tryd.func111, Tryd.ntmps111
      go_wp2_with fail
      refine (hT _ h.out).mono ?_
      rintro x w1 ⟨rfl, h1, hg⟩
      have ht1 := hTI.out _ hg
      clear z0 p0 f0 h hT
      replace h1 := Hid.mk h1
      replace hg := Hid.mk hg
      go_wp2_with fail
      refine (hD _ ht1).mono ?_
      rintro x w2 ⟨v, rfl, hO, hBe⟩
      replace h1 := h1.out.below hBe h1.out.lt
      replace hO := own_base hO hg.out.size
      replace hg := Hid.mk (hg.out.trans (grown_of hBe _))
      have hOk : ∀ W, w2.grownBy W (some kr) → LOwn W w.heap.size v L := fun W hW => own_kept hO hW (own_ne hO h1 (by decide))
      obtain ⟨va, vc, rfl⟩ := own_slice hO
      have ⟨z0, p0, f0⟩ := h1.at
      replace h1 : Hid (RIn w2 kr S _) := Hid.mk h1
      replace hO := Hid.mk hO
      replace hOk := Hid.mk hOk
      clear hBe hD ht1
      go_wp2_with fail
      refine (hF1 _ h1.out).mono ?_
      clear z0 p0 f0 h1 hO
      rintro x w3 ⟨rfl, h1, hg2⟩
      have hO := hOk.out _ hg2
      replace hOk : ∀ W, w3.grownBy W (some kr) → LOwn W w.heap.size (.slice va L.length vc) L := fun W hW => own_kept hO hW (own_ne hO h1 (by decide))
      have ⟨z0, p0, f0⟩ := h1.at
      replace h1 : Hid (RIn w3 kr S _) := Hid.mk h1
      replace hg := Hid.mk (hg.out.trans hg2)
      replace hO := Hid.mk hO
      replace hOk := Hid.mk hOk
      clear hg2
      go_wp2_with fail
      refine (hF2 _ h1.out).mono ?_
      clear z0 p0 f0 h1 hO
      rintro x w4 ⟨rfl, h1, hg2⟩
      have hO := hOk.out _ hg2
      replace h1 : Hid (RIn w4 kr S _) := Hid.mk h1
      replace hg := Hid.mk (hg.out.trans hg2)
      replace hO := Hid.mk hO
      clear hg2 hOk
      go_wp2_with fail
      go_ret
      exact ⟨_, rfl, hO.out, h1.out, hg.out⟩
  · obtain rfl : k = n := by omega
    have q3 : ¬ ((S.length : Int) - σ.i) / 8 < (k : Int) := by omega
    rw [if_neg hlt]
    replace e1 := Hid.mk e1
    by_cases he : e = 0
    · have he' : (e != 0) = false := by simpa using he
      rw [if_pos he] at e2
      subst e2
      replace he := Hid.mk he
      go_enter Tryd.func111, Tryd.ntmps111
      go_wp2_with fail
      refine (hT _ h.out).mono ?_
      rintro x w1 ⟨rfl, h1, hg⟩
      have ht1 := hTI.out _ hg
      clear z0 p0 f0 h hT
      replace h1 := Hid.mk h1
      replace hg := Hid.mk hg
      go_wp2_with fail
      refine (hD _ ht1).mono ?_
      rintro x w2 ⟨v, rfl, hO, hBe⟩
      replace h1 := h1.out.below hBe h1.out.lt
      replace hO := own_base hO hg.out.size
      replace hg := Hid.mk (hg.out.trans (grown_of hBe _))
      have hOk : ∀ W, w2.grownBy W (some kr) → LOwn W w.heap.size v L := fun W hW => own_kept hO hW (own_ne hO h1 (by decide))
      obtain ⟨va, vc, rfl⟩ := own_slice hO
      have ⟨z0, p0, f0⟩ := h1.at
      replace h1 : Hid (RIn w2 kr S _) := Hid.mk h1
      replace hO := Hid.mk hO
      replace hOk := Hid.mk hOk
      clear hBe hD ht1
      go_wp2_with fail
      go_ret
      exact ⟨_, rfl, hO.out, h1.out, hg.out⟩
    
    · have he' : (e != 0) = true := by simpa using he
      rw [if_neg he] at e2
      subst e2
      replace he := Hid.mk he
      go_enter Tryd.func111, Tryd.ntmps111
      go_wp2_with fail
      refine (hT _ h.out).mono ?_
      rintro x w1 ⟨rfl, h1, hg⟩
      have ht1 := hTI.out _ hg
      clear z0 p0 f0 h hT
      replace h1 := Hid.mk h1
      replace hg := Hid.mk hg
      go_wp2_with fail
      refine (hD _ ht1).mono ?_
      rintro x w2 ⟨v, rfl, hO, hBe⟩
      replace h1 := h1.out.below hBe h1.out.lt
      replace hO := own_base hO hg.out.size
      replace hg := Hid.mk (hg.out.trans (grown_of hBe _))
      have hOk : ∀ W, w2.grownBy W (some kr) → LOwn W w.heap.size v L := fun W hW => own_kept hO hW (own_ne hO h1 (by decide))
      obtain ⟨va, vc, rfl⟩ := own_slice hO
      have ⟨z0, p0, f0⟩ := h1.at
      replace h1 : Hid (RIn w2 kr S _) := Hid.mk h1
      replace hO := Hid.mk hO
      replace hOk := Hid.mk hOk
      clear hBe hD ht1
      go_wp2_with fail
      refine (hF1 _ h1.out).mono ?_
      clear z0 p0 f0 h1 hO
      rintro x w3 ⟨rfl, h1, hg2⟩
      have hO := hOk.out _ hg2
      replace hOk : ∀ W, w3.grownBy W (some kr) → LOwn W w.heap.size (.slice va L.length vc) L := fun W hW => own_kept hO hW (own_ne hO h1 (by decide))
      have ⟨z0, p0, f0⟩ := h1.at
      replace h1 : Hid (RIn w3 kr S _) := Hid.mk h1
      replace hg := Hid.mk (hg.out.trans hg2)
      replace hO := Hid.mk hO
      replace hOk := Hid.mk hOk
      clear hg2
      go_wp2_with fail
      go_ret
      exact ⟨_, rfl, hO.out, h1.out, hg.out⟩
end Go.Proofs.YthmfaafpdogpdabDoor
