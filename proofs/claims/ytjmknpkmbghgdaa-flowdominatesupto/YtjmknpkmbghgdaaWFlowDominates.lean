/-
  Stage 8, flow: FlowDominates, walked.
-/
import Derived.Test.YtjmknpkmbghgdaaFGivenI
namespace Go.Proofs.Ytjmknpkmbghgdaa
namespace F
open Go.RowKit
open T

set_option maxRecDepth 100000 in
set_option maxHeartbeats 4000000 in
theorem walk_FlowDominates (L : List Ins) (cc : Nat) (ca : Option Addr) (a b : Int) (E : List Int) (ec : Nat) (ea : Option Addr) (w : World) (hL : LIn w.heap.size w ca L) (hcn : NilOk ca L.length cc) (_ : -9223372036854775808 ≤ a ∧ a < 9223372036854775808) (_ : -9223372036854775808 ≤ b ∧ b < 9223372036854775808) (hE : NIn w.heap.size w ea E) (hnil : NilOk ea E.length ec) (hn : L.length ≤ 1900000) (he : E.length ≤ 1900000) :
    Calls Try.prog 7 #[.slice ca L.length cc, .int .i64 a, .int .i64 b, .slice ea E.length ec] w fun e w' => e = .returned (.bool true) ∧ Below w.heap.size w w' := by
  have hH := head_any w
  have hl := fun W (q : Below w.heap.size w W) => lent_any L ca cc W ((hL.below q).mono q.size) hcn hn
  have hi := fun W (q : Below w.heap.size w W) => lentInts_any E ea ec W ((hE.below q).mono q.size) hnil he
  have hD := fun W g h (h1 : LIn W.heap.size W (some ⟨g, 0, none⟩) L) (h2 : NIn W.heap.size W (some ⟨h, 0, none⟩) E) => Dominates_any L E (L.length + 8) (E.length + 8) (some ⟨g, 0, none⟩) (some ⟨h, 0, none⟩) a b W h1 h2 (fun e => by cases e) (by omega) (by omega)
  have hg := fun W g (q : Below w.heap.size w W) (h : At W g (insA (L ++ mkI8))) => given_any L ca cc g W ((hL.below q).mono q.size) h hn
  have hk := fun W g (q : Below w.heap.size w W) (h : At W g (numA (E ++ mkN))) => givenInts_any E ea ec g W ((hE.below q).mono q.size) h he
  have hR := fun W (q : Below w.heap.size w W) => DominatesD_any L E cc ec ca ea a b W ((hL.below q).mono q.size) ((hE.below q).mono q.size) (by omega) (by omega)
  have hbb : ((domB L E a b) == (domB L E a b)) = true := by simp
  generalize domB L E a b = d at *
  replace hL := Hid.mk hL
  replace hE := Hid.mk hE
  replace hcn := Hid.mk hcn
  replace hnil := Hid.mk hnil
  replace hH := Hid.mk hH
  replace hl := Hid.mk hl
  replace hi := Hid.mk hi
  replace hD := Hid.mk hD
  replace hg := Hid.mk hg
  replace hk := Hid.mk hk
  replace hR := Hid.mk hR
  go_enter Try.func7, Try.ntmps7
  go_wp2_with (first | (go_at_call 9; refine hH.out.mono ?_; rintro x w1 ⟨rfl, q1⟩; replace q1 := Hid.mk q1) | (go_at_call 16; refine (hl.out _ q1.out).mono ?_; rintro x w2 ⟨rfl, l1, l2⟩; have c2 := Hid.mk (q1.out.trans (l2.mono q1.out.size)); have lt2 := l1.1; replace l1 := Hid.mk l1; clear l2) | (go_at_call 23; refine (hi.out _ c2.out).mono ?_; rintro x w3 ⟨rfl, i1, i2⟩; have c3 := Hid.mk (c2.out.trans (i2.mono c2.out.size)); have l3 := Hid.mk (at_below l1.out i2 lt2); have lt3 := l3.out.1; have jt3 := i1.1; replace i1 := Hid.mk i1; clear i2 l1) | (go_at_call 15; refine (hD.out _ _ _ ((lin_front l3.out).mono lt3) ((nin_front i1.out).mono jt3)).mono ?_; rintro x w4 ⟨rfl, d1⟩; have c4 := Hid.mk (c3.out.trans (d1.mono c3.out.size)); have l4 := Hid.mk (at_below l3.out d1 lt3); have i4 := Hid.mk (at_below i1.out d1 jt3); have jt4 := i4.out.1; clear d1 l3 i1) | (go_at_call 20; refine (hg.out _ _ c4.out l4.out).mono ?_; rintro x w5 ⟨rfl, g1⟩; have c5 := Hid.mk (c4.out.trans (g1.mono c4.out.size)); have i5 := Hid.mk (at_below i4.out g1 jt4); clear g1 i4 l4) | (go_at_call 24; refine (hk.out _ _ c5.out i5.out).mono ?_; rintro x w6 ⟨rfl, g1⟩; have c6 := Hid.mk (c5.out.trans (g1.mono c5.out.size)); clear g1 i5) | (go_at_call 25; refine (hR.out _ c6.out).mono ?_; rintro x w7 ⟨rfl, g1⟩; have c7 := Hid.mk (c6.out.trans (g1.mono c6.out.size)); clear g1))
  go_ret
  exact ⟨rfl, c7.out⟩
end F
end Go.Proofs.Ytjmknpkmbghgdaa
