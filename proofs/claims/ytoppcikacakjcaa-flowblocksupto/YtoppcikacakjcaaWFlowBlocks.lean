import Derived.Test.YtoppcikacakjcaaFBlkG
/-
  Stage 8, flow: FlowBlocks, walked.
-/
namespace Go.Proofs.Ytoppcikacakjcaa
namespace F
open Go.RowKit
open T

theorem nxt_le (L : List Ins) (pc : Int) : (nxtI L pc).length ≤ L.length := by
  have := nxK_len L pc L.length
  rwa [nxK_all] at this
theorem bk_len {L : List Ins} {E : List Int} {R : List Bk} (h : R.map Bk.fl = blF (firF L E) L.length) : R.length ≤ L.length := by
  have h1 := blF_len (firF L E) L.length
  rw [← h, List.length_map] at h1
  exact h1
theorem pr_new {w : World} {L : List Ins} {E : List Int} {bB gl gi : Nat} {x z y : Value} {Rx Rz Ry : List Bk} {w4 w5 w6 w7 : World} (hg : Gs w gl gi L E w4) (hb : At w4 bB #[.int .i64 0, .slice none 0 0, .slice none 0 0]) (loB : w.heap.size ≤ bB)
    (hx : Bs L Rx.length w5 w4.heap.size x Rx) (b1 : Below w4.heap.size w4 w5) (hz : Bs L Rz.length w6 w5.heap.size z Rz) (b2 : Below w5.heap.size w5 w6) (hy : Bs L Ry.length w7 w6.heap.size y Ry) (b3 : Below w6.heap.size w6 w7) (e : Rz.length = Rx.length) :
    Pr w L E bB gl gi w4.heap.size w5.heap.size w6.heap.size x z y Rx Rz Ry w7 := by
  have g5 := hg.below b1
  have g6 := g5.below b2
  have a5 := at_below hb b1 hb.1
  have a6 := at_below a5 b2 a5.1
  exact ⟨g6.below b3, at_below a6 b3 a6.1, loB, hb.1, hg.cl.1, hg.en.1, hg.be.size, (hx.below b2).below b3, hz.below b3, hy, b1.size, b2.size, fun g r => (World.ownsRow.lt hx.row g r).2, fun j h g r => (World.ownsRow.lt (hx.nxs j h h) g r).2, fun g r => (World.ownsRow.lt hz.row g r).2, fun j h g r => (World.ownsRow.lt (hz.nxs j h h) g r).2, e⟩
/-- The loop that gathers the lists. -/
def Gt (w7 : World) (Rx Rz : List Bk) (V : Value) (i : Nat) (W : World) : Prop :=
  Below w7.heap.size w7 W ∧ W.ownsRow w7.heap.size 23 1 V (vsF Rx Rz i).length (vsF Rx Rz i)
theorem Gt.app {w7 : World} {Rx Rz : List Bk} {V v' : Value} {i : Nat} {W W' w3 : World} {a b : Value} (h : Gt w7 Rx Rz V i W) (hb : Below W.heap.size W W') (k1 : w3.ownsRow w7.heap.size 23 1 v' ((vsF Rx Rz i).length + 2) (vsF Rx Rz i ++ [a, b])) (k2 : W'.grownBy w3 V.ownBlock) (hv : vsF Rx Rz (i + 1) = vsF Rx Rz i ++ [a, b]) : Gt w7 Rx Rz v' (i + 1) w3 := by
  refine ⟨(h.1.trans (hb.mono h.1.size)).trans (Below.of_grown k2 (Nat.le_trans h.1.size hb.size) (fun g r => (World.ownsRow.lt h.2 g r).1)), ?_⟩
  rw [hv, List.length_append]
  exact k1
set_option maxRecDepth 100000 in
set_option maxHeartbeats 16000000 in
theorem walk_FlowBlocks (L : List Ins) (cc : Nat) (ca : Option Addr) (E : List Int) (ec : Nat) (ea : Option Addr) (w : World) (hL : LIn w.heap.size w ca L) (hcn : NilOk ca L.length cc) (hE : NIn w.heap.size w ea E) (hnil : NilOk ea E.length ec) (hn : L.length ≤ 1900000) (he : E.length ≤ 1900000) :
    Calls Try.prog 3 #[.slice ca L.length cc, .slice ea E.length ec] w fun e w' => e = .returned (.bool true) ∧ Below w.heap.size w w' := by
  have hH := head_any w
  have hl := fun W (q : Below w.heap.size w W) => lent_any L ca cc W ((hL.below q).mono q.size) hcn hn
  have hi := fun W (q : Below w.heap.size w W) => lentInts_any E ea ec W ((hE.below q).mono q.size) hnil he
  have hB := fun W gl gi M (h : Gs w gl gi M E W) (hm : M.length = L.length) => Blocks_any M E (some ⟨gl, 0, none⟩) (some ⟨gi, 0, none⟩) (L.length + 8) (E.length + 8) W ((lin_front h.cl).mono h.cl.1) ((nin_front h.en).mono h.en.1) (by omega) (by omega)
  have hD := fun W (q : Below w.heap.size w W) => BlocksD_any L E ca ea cc ec W ((hL.below q).mono q.size) ((hE.below q).mono q.size) (by omega) (by omega)
  have hT := fun va vc W (h : LIn W.heap.size W va L.reverse) (q : Below w.heap.size w W) => BlocksD_any L.reverse E va ea vc ec W h ((hE.below q).mono q.size) (by simp; omega) (by omega)
  have hQ := fun M (hm : M.length = L.length) R R' v v' lo lo' W (h1 : Bs M R.length W lo v R) (h2 : Bs M R'.length W lo' v' R') (e1 : R.map Bk.fl = blF (firF M E) M.length) (e2 : R'.map Bk.fl = blF (firF M E) M.length) => blocks_any M R R' v v' lo lo' W h1 h2 (e1.trans e2.symm) (by omega) (by have := bk_len e1; omega)
  have hgi := fun W g (q : Below w.heap.size w W) (h : At W g (numA (E ++ mkN))) => givenInts_any E ea ec g W ((hE.below q).mono q.size) h he
  have hg := fun W g (q : Below w.heap.size w W) (h : At W g (insA (L ++ mkI8))) => given_any L ca cc g W ((hL.below q).mono q.size) h hn
  have hbk := fun W (q : Below w.heap.size w W) => backwards_any L ca cc W ((hL.below q).mono q.size) hn
  have hrl : L.reverse.length = L.length := List.length_reverse
  have hNl : ∀ p, (nxtI L p).length ≤ 1900000 := fun p => Nat.le_trans (nxt_le L p) hn
  obtain ⟨i0, hi0, hz0, hz1, hz2⟩ := info_parts' (t := 23) (z := .slice none 0 0) (s := 1) (b := 24) (by kernel_rfl)
  replace hL := Hid.mk hL
  replace hcn := Hid.mk hcn
  replace hE := Hid.mk hE
  replace hnil := Hid.mk hnil
  replace hH := Hid.mk hH
  replace hl := Hid.mk hl
  replace hi := Hid.mk hi
  replace hB := Hid.mk hB
  replace hD := Hid.mk hD
  replace hT := Hid.mk hT
  replace hQ := Hid.mk hQ
  replace hgi := Hid.mk hgi
  replace hg := Hid.mk hg
  replace hbk := Hid.mk hbk
  replace hrl := Hid.mk hrl
  replace hNl := Hid.mk hNl
  go_enter Try.func3, Try.ntmps3
  go_wp2_with fail
  refine hH.out.mono ?_
  rintro x w1 ⟨rfl, q1⟩
  have hlo := q1.size
  replace q1 := Hid.mk q1
  have b1 : Hid (At (w1.alloc (.cells #[.int .i64 0, .slice none 0 0, .slice none 0 0] 28)) w1.heap.size #[.int .i64 0, .slice none 0 0, .slice none 0 0] ∧ Below w.heap.size w (w1.alloc (.cells #[.int .i64 0, .slice none 0 0, .slice none 0 0] 28))) := Hid.mk ⟨At.new w1 _ _, q1.out.alloc hlo _⟩
  go_wp2_with fail
  generalize w1.alloc (.cells #[.int .i64 0, .slice none 0 0, .slice none 0 0] 28) = w2 at *
  generalize w1.heap.size = bB at *
  refine (hl.out _ b1.out.2).mono ?_
  rintro x w3 ⟨rfl, l1, l2⟩
  have c1 : Hid (At w3 bB #[.int .i64 0, .slice none 0 0, .slice none 0 0] ∧ Below w.heap.size w w3 ∧ At w3 w2.heap.size (insA (L ++ mkI8))) := Hid.mk ⟨at_below b1.out.1 l2 b1.out.1.1, b1.out.2.trans (l2.mono b1.out.2.size), l1⟩
  have hlg := b1.out.2.size
  clear b1 q1 l1 l2
  generalize w2.heap.size = gl at *
  go_wp2_with fail
  refine (hi.out _ c1.out.2.1).mono ?_
  rintro x w4 ⟨rfl, l1, l2⟩
  have c2 : Hid (Gs w gl w3.heap.size L E w4 ∧ At w4 bB #[.int .i64 0, .slice none 0 0, .slice none 0 0]) := Hid.mk ⟨⟨c1.out.2.1.trans (l2.mono c1.out.2.1.size), at_below c1.out.2.2 l2 c1.out.2.2.1, l1⟩, at_below c1.out.1 l2 c1.out.1.1⟩
  have hgg : w3.heap.size ≠ gl := Nat.ne_of_gt c1.out.2.2.1
  clear c1 l1 l2
  generalize w3.heap.size = gi at *
  go_wp2_with fail
  refine (hB.out _ gl gi L c2.out.1 rfl).mono ?_
  rintro _ w5 ⟨x, Rx, rfl, x1, x2, x3⟩
  replace x1 := Hid.mk x1
  replace x2 := Hid.mk x2
  replace x3 := Hid.mk x3
  obtain ⟨xa, xc, rfl⟩ := x1.out.row.slice
  go_wp2_with fail
  refine (hB.out _ gl gi L (c2.out.1.below x3.out) rfl).mono ?_
  rintro _ w6 ⟨z, Rz, rfl, z1, z2, z3⟩
  replace z1 := Hid.mk z1
  replace z2 := Hid.mk z2
  replace z3 := Hid.mk z3
  obtain ⟨za, zc, rfl⟩ := z1.out.row.slice
  go_wp2_with fail
  refine (hD.out _ ((c2.out.1.below x3.out).below z3.out).be).mono ?_
  rintro _ w7 ⟨y, Ry, rfl, y1, y2, y3⟩
  obtain ⟨ya, yc, rfl⟩ := y1.row.slice
  have hez : Rz.length = Rx.length := by have := congrArg List.length (z2.out.trans x2.out.symm); simpa using this
  have hp := Hid.mk (pr_new c2.out.1 c2.out.2 hlo x1.out x3.out z1.out z3.out y1 y3 hez)
  have hly := y3.size
  clear x1 z1 y1 x3 z3 y3 c2
  replace y2 := Hid.mk y2
  generalize w4.heap.size = lx at *
  generalize w5.heap.size = lz at *
  generalize w6.heap.size = ly at *
  rw [hez] at hp ⊢
  replace hez := Hid.mk hez
  go_wp2_with fail
  refine (hgi.out _ gi hp.out.gs.be hp.out.gs.en).mono ?_
  rintro _ w8 ⟨rfl, q⟩
  replace hp := Hid.mk (hp.out.below q)
  have hly8 := Nat.le_trans hly q.size
  clear q hly
  go_wp2_with fail
  refine (hQ.out L rfl Rx Ry _ _ _ _ _ hp.out.hx hp.out.hy x2.out y2.out).mono ?_
  rintro _ w9 ⟨rfl, q⟩
  replace hp := Hid.mk (hp.out.below q)
  have hly9 := Nat.le_trans hly8 q.size
  clear q hly8
  go_wp2_with fail
  have hz9 := hp.out.hz
  refine (hQ.out L rfl Rz Ry _ _ _ _ _ hp.out.hz hp.out.hy z2.out y2.out).mono ?_
  rintro _ wa ⟨rfl, q⟩
  replace hp := Hid.mk (hp.out.below q)
  have hlya := Nat.le_trans hly9 q.size
  clear q hly9 hz9
  have hgt : Hid (Gt wa Rx Rz (.slice none 0 0) 0 wa) := Hid.mk ⟨Below.refl _ _, ⟨rfl, .inl ⟨rfl, rfl⟩⟩⟩
  have hxl : Rx.length ≤ 1900000 := by have := bk_len x2.out; omega
  go_wp2_with fail
  go_loopw [15, 16] (fun V x wr => ∃ i : Nat, x = .int .i64 i ∧ i ≤ Rx.length ∧ Hid (Gt wa Rx Rz V i wr)) (fun _ x _ => Rx.length - (intOf x).toNat)
  case atStart => exact ⟨0, rfl, by omega, hgt⟩
  case round =>
    clear hgt
    obtain ⟨i, rfl, hi2, st⟩ := hrel
    by_cases hlt : i < Rx.length
    · have hi1 : (i : Int) < Rx.length := by omega
      have hlt' : i < Rz.length := by rw [hez.out]; exact hlt
      have hpw := hp.out.below st.out.1
      obtain ⟨gx, kx, e1, l1, _, _, m1⟩ := hpw.hx.row.at i hlt
      obtain ⟨gz, kz, e2, l2, _, _, m2⟩ := hpw.hz.row.at i hlt'
      injection e1 with e1 d1 e1'
      injection e2 with e2 d2 e2'
      clear d1 d2
      subst e1 e1' e2 e2'
      obtain ⟨na, nc, ex⟩ := own_slice (hpw.hx.nxs i hlt hlt)
      obtain ⟨ma, mc, ez⟩ := own_slice (hpw.hz.nxs i hlt' hlt')
      have hv := vsF_step hlt hlt'
      rw [ex] at m1 hv
      rw [ez] at m2 hv
      clear ex ez hpw
      obtain ⟨Va, Vc, rfl⟩ := row_slice st.out.2
      have hvl : (vsF Rx Rz i).length ≤ 3800000 := by rw [vsF_len]; omega
      have hva := Hid.mk (fun v' W' w3 a b => Gt.app (v' := v') (W' := W') (w3 := w3) (a := a) (b := b) st.out)
      have sr := Hid.mk st.out.2
      have hsz := st.out.1.size
      generalize vsF Rx Rz i = vs at *
      generalize (nxtI L (Rx[i].l : Int)).length = nn at *
      generalize (nxtI L (Rz[i].l : Int)).length = mn at *
      replace hv := Hid.mk hv
      clear st
      go_wp2_with fail
      go_region_law ((refine step_append_lies _ (by rfl) (.tmp 70) (.tmp 81) 26 (by rfl) wa.heap.size 23 i0 (.slice none 0 0) 1 24 Try.underlying26 hi0 hz0 hz1 hz2 rfl (by decide) (.slice Va vs.length Vc) _ _ (by rfl) (own_below sr.out (by (repeat (first | assumption | with_reducible exact Below.refl _ _ | with_reducible refine Below.alloc ?_ (by simp <;> omega) _ | with_reducible refine Below.setCell ?_ (by simp <;> omega) _ | with_reducible refine Below.drew ?_)))) ⟨wr.heap.size, 0, none⟩ 2 2 [.slice na nn nc, .slice ma mn mc] (by rfl) (by rfl) (World.news_of_block (cs := #[.slice na nn nc, .slice ma mn mc]) (t := 23) (fr := (0, 0)) (heap_alloc_new wr _)) (by simp [Value.oneCell']) (by decide) (by unfold maxLen; omega) (by omega) (by simp; omega) (wr.heap.size + 1) (by simp) ?_; intro g3 c3 w3 k1 k2 k3 k4; have hnw := Hid.mk (hva.out _ _ _ _ _ (by (repeat (first | assumption | with_reducible exact Below.refl _ _ | with_reducible refine Below.alloc ?_ (by simp <;> omega) _ | with_reducible refine Below.setCell ?_ (by simp <;> omega) _ | with_reducible refine Below.drew ?_))) k1 k2 hv.out); clear k1 k2 k3 k4))
      all_goals
        go_wp2_with fail
        go_roundw
        all_goals first | exact ⟨i + 1, by simp, by omega, hnw⟩ | (simp only [intOf]; omega)
    · have hi1 : ¬ (i : Int) < Rx.length := by omega
      have ei : i = Rx.length := by omega
      subst ei
      obtain ⟨c, o1, o2, o3, o4, o5⟩ := (hp.out.below st.out.1).own st.out.2 hlya hNl.out
      have hvl : (vsF Rx Rz Rx.length).length ≤ 3800000 := by rw [vsF_len]; omega
      have hO := Hid.mk (ownAll_any wr bB _ _ c o1 o2 o3 o4 (by omega))
      obtain ⟨Va, Vc, rfl⟩ := row_slice st.out.2
      generalize vsF Rx Rz Rx.length = vs at *
      replace o5 := Hid.mk o5
      clear o1 o2 o3 o4 st hp
      go_wp2_with fail
      refine hO.out.mono ?_
      rintro _ wb ⟨rfl, ow⟩
      obtain ⟨r1, r2, r3, r4⟩ := o5.out _ _ ow
      have hA := Hid.mk (apart_any _ _ _ _ _ _ _ r1 r2 r3 (by omega) (by omega))
      replace r4 := Hid.mk r4
      clear r1 r2 r3 ow o5 hO
      go_wp2_with fail
      refine hA.out.mono ?_
      rintro _ wc ⟨rfl, k⟩
      have po := Hid.mk (r4.out _ k)
      clear k r4 hA
      go_wp2_with fail
      refine (hg.out _ gl po.out.gs.be po.out.gs.cl).mono ?_
      rintro _ wd ⟨rfl, q⟩
      replace po := Hid.mk (po.out.below q)
      clear q
      obtain ⟨v1, v2, T, c', bk, tl⟩ := po.out.bok
      have hS := Hid.mk (still_any _ bB _ v1 v2 T c' bk (by omega))
      clear bk tl
      go_wp2_with fail
      refine hS.out.mono ?_
      rintro _ we ⟨rfl, q⟩
      replace po := Hid.mk (po.out.below q)
      clear q hS
      go_wp2_with fail
      refine (hB.out _ gl gi L po.out.gs rfl).mono ?_
      rintro _ wf ⟨u, Ru, rfl, u1, u2, q⟩
      obtain ⟨ua, uc, rfl⟩ := u1.row.slice
      replace po := Hid.mk (po.out.below q)
      have hQ1 := Hid.mk (hQ.out L rfl Ru Ry _ _ _ _ _ u1 po.out.hy u2 y2.out)
      clear q u1 u2
      go_wp2_with fail
      refine hQ1.out.mono ?_
      rintro _ wg ⟨rfl, q⟩
      have gs := Hid.mk (po.out.below q).gs
      clear q hQ1 po
      go_wp2_with fail
      refine (hbk.out _ gs.out.be).mono ?_
      rintro x wh ⟨v, rfl, b1, d2⟩
      have hglp : gl < wg.heap.size := gs.out.cl.1
      replace gs := Hid.mk (gs.out.below d2)
      clear d2
      obtain ⟨va, vc, rfl, b2⟩ := b1.form
      have b3 : NilOk va L.reverse.length vc := fun e => by
        rcases b1.2 with ⟨r, _⟩ | ⟨g', c', cur, r, _⟩
        · injection r with r1 r2 r3; exact ⟨r2, r3⟩
        · injection r with r1 r2 r3; rw [e] at r1; cases r1
      have hcp := copy_turn (c := L.length + 8) 3 gs.out.cl b2 b3 (by simp)
      have b4 : LOwn (wh.setCells gl 0 (flat L.reverse)) wg.heap.size (.slice va L.reverse.length vc) L.reverse := own_kp b1 (kp_setCells (fun k => k = gl) gl rfl _ 0 wh) (fun k r => by have := (World.ownsRow.lt b1 k r).1; omega)
      have st2 : Hid (Gs w gl gi L.reverse E (wh.setCells gl 0 (flat L.reverse))) := Hid.mk (gs.out.turn hrl.out hlg hgg)
      obtain ⟨va', vc', ev, b5⟩ := b4.form
      injection ev with ev1 ev2 ev3
      subst ev1 ev3
      have hR : Hid (∀ W, Below (wh.setCells gl 0 (flat L.reverse)).heap.size (wh.setCells gl 0 (flat L.reverse)) W → LIn W.heap.size W va L.reverse) := Hid.mk (fun W q => (b5.below q).mono q.size)
      clear gs b1 b2 b3 b4 b5 hglp
      rw [hrl.out] at hcp ⊢
      generalize wh.setCells gl 0 (flat L.reverse) = wi at *
      have hB1 := Hid.mk (by have := hB.out wi gl gi L.reverse st2.out hrl.out; rw [hrl.out] at this; exact this)
      have hT1 := Hid.mk (fun W (q : Below w.heap.size w W) (q1 : Below wi.heap.size wi W) => by have := hT.out va vc W (hR.out W q1) q; rw [hrl.out] at this; exact this)
      have hQ1 := Hid.mk (fun R R' v v' lo lo' W h1 h2 (e1 : R.map Bk.fl = blF (firF L.reverse E) L.length) (e2 : R'.map Bk.fl = blF (firF L.reverse E) L.length) => hQ.out L.reverse hrl.out R R' v v' lo lo' W h1 h2 (by rw [hrl.out]; exact e1) (by rw [hrl.out]; exact e2))
      clear hB hT hQ hD hgi hg hbk hl hi hH hR
      go_wp2_with fail
      refine hB1.out.mono ?_
      rintro _ wj ⟨u, R1, rfl, u1, u2, q⟩
      obtain ⟨ua', uc', rfl⟩ := u1.row.slice
      replace st2 := Hid.mk (st2.out.below q)
      replace q := Hid.mk q
      replace u1 := Hid.mk u1
      replace u2 := Hid.mk u2
      go_wp2_with fail
      refine (hT1.out _ st2.out.be q.out).mono ?_
      rintro _ wk ⟨u, R2, rfl, t1, t2, q2⟩
      obtain ⟨ta, tc, rfl⟩ := t1.row.slice
      replace st2 := Hid.mk (st2.out.below q2)
      have hQ2 := Hid.mk (hQ1.out R1 R2 _ _ _ _ _ (u1.out.below q2) t1 u2.out t2)
      clear q q2 t1 t2 u1 u2
      go_wp2_with fail
      refine hQ2.out.mono ?_
      rintro _ wl ⟨rfl, q⟩
      replace st2 := Hid.mk (st2.out.below q)
      clear q
      go_wp2_with fail
      go_ret
      exact ⟨rfl, st2.out.be⟩
end F
end Go.Proofs.Ytoppcikacakjcaa
