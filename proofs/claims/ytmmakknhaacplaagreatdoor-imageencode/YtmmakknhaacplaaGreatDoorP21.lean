import Derived.Test.YtmmakknhaacplaaGreatDoorP20
import Derived.BigFrame
import Derived.Test.YtmmakknhaacplaaGreatDoorP18
import Derived.Test.YtmmakknhaacplaaGreatDoorP06
import Derived.Test.YtmmakknhaacplaaGreatDoorP07
/-
  Programs that are lent: mark, types.
-/
namespace Go.Proofs.YtmmakknhaacplaaGreatDoor
namespace Q
open Go.RowKit

/-- Slots while they are marked. -/
structure M77 (w0 : World) (g : Nat) (pre : List PSlot) (n i : Nat) (l : List PSlot) (W : World) : Prop where
  gr : Gr w0 W
  at_ : At W g (rowV [] PSlot.vals (pre ++ l)).toArray
  len : l.length = n
  done : ∀ j, j < i → l[j]? = some slot77
  rest : ∀ j, i ≤ j → j < n → l[j]? = some slotZ
theorem M77.all {w0 : World} {g : Nat} {pre : List PSlot} {n : Nat} {l : List PSlot} {W : World} (h : M77 w0 g pre n n l W) : l = List.replicate n slot77 := by
  apply List.ext_getElem?
  intro j
  by_cases q : j < n
  · rw [h.done j q]; simp [q]
  · rw [List.getElem?_eq_none (by rw [h.len]; omega), List.getElem?_eq_none (by simp; omega)]
theorem M77.cell {w0 : World} {g : Nat} {pre : List PSlot} {n i : Nat} {l : List PSlot} {W : World} (h : M77 w0 g pre n i l W) (hi : i < n) (o : Nat) (ho : o = pre.length * 8) : W.cell? ⟨g, o + i * 8 + 7, none⟩ = some (.int .u64 0) := by
  have e := h.rest i (Nat.le_refl _) hi
  have q : (pre ++ l)[pre.length + i]? = some slotZ := by rw [List.getElem?_append_right (by omega), Nat.add_sub_cancel_left]; exact e
  have r := elem_atL slt_len h.at_ _ _ q 7 _ rfl
  rw [show o + i * 8 + 7 = (pre.length + i) * 8 + 7 by omega]
  exact r
theorem M77.next {w0 : World} {g : Nat} {pre : List PSlot} {n i : Nat} {l : List PSlot} {W : World} (h : M77 w0 g pre n i l W) (hi : i < n) (hg : w0.heap.size ≤ g) (o : Nat) (ho : o = pre.length * 8) : M77 w0 g pre n (i + 1) (l.set i slot77) (W.setCell ⟨g, o + i * 8 + 7, none⟩ (.int .u64 77)) := by
  have e := h.rest i (Nat.le_refl _) hi
  have hl : i < l.length := by rw [h.len]; exact hi
  have q : (pre ++ l)[pre.length + i]? = some slotZ := by rw [List.getElem?_append_right (by omega), Nat.add_sub_cancel_left]; exact e
  obtain ⟨hlt, q'⟩ := List.getElem?_eq_some_iff.1 q
  refine ⟨h.gr.setCell g _ _ hg, ?_, by rw [List.length_set]; exact h.len, fun j hj => ?_, fun j hj hn => ?_⟩
  · have r := At.setOne slt_len h.at_ (pre.length + i) hlt slot77 7 (.int .u64 77) (by omega) (by rw [q']; rfl) (o + i * 8 + 7) (by omega)
    rw [List.set_append_right _ _ (by omega), Nat.add_sub_cancel_left] at r
    exact r
  · by_cases e2 : j = i
    · subst e2; simp [hl]
    · rw [List.getElem?_set_ne (fun r => e2 r.symm)]; exact h.done j (by omega)
  · rw [List.getElem?_set_ne (by omega)]; exact h.rest j (by omega) hn
set_option maxRecDepth 100000 in
set_option maxHeartbeats 2000000 in
theorem mark_any (w0 w : World) (g : Nat) (pre : List PSlot) (n o cap : Nat) (ho : o = pre.length * 8) (hA : At w g (rowV [] PSlot.vals (pre ++ List.replicate n slotZ)).toArray) (hG : Gr w0 w) (hg : w0.heap.size ≤ g) (hn : n ≤ 281474976710656) : Calls Tryz.prog 15 #[.slice (some ⟨g, o, none⟩) n cap] w fun x w' => x = .returned (.tuple #[]) ∧ Gr w0 w' ∧ At w' g (rowV [] PSlot.vals (pre ++ List.replicate n slot77)).toArray := by
  have hI0 := Hid.mk (show M77 w0 g pre n 0 (List.replicate n slotZ) w from ⟨hG, hA, by simp, fun j hj => by omega, fun j _ hj => by simp [hj]⟩)
  clear hA hG
  replace ho := Hid.mk ho
  go_enter Tryz.func15, Tryz.ntmps15
  go_upto_region 1 with fail
  go_loopw [2] (fun x wr => ∃ (i : Nat) (l : List PSlot), x = .int .i64 i ∧ i ≤ n ∧ Hid (M77 w0 g pre n i l wr)) (fun x _ => n - (intOf x).toNat)
  case atStart => exact ⟨0, _, rfl, by omega, hI0⟩
  case round =>
    clear hI0
    obtain ⟨i, l, rfl, hi, hI⟩ := hrel
    by_cases hlt : i < n
    · have hi1 : (i : Int) < (n : Int) := by omega
      have c1 := hI.out.cell hlt o ho.out
      have f1 : wr.frozen? ⟨g, o + i * 8 + 7, none⟩ = false := hI.out.at_.2.2 _
      have hN := Hid.mk (hI.out.next hlt hg o ho.out)
      clear hI
      go_wp2_with fail
      exact ⟨⟨i + 1, _, by go_num, by omega, hN⟩, by simp [intOf]; omega⟩
    · have hi1 : ¬ (i : Int) < (n : Int) := by omega
      have ei : i = n := by omega
      subst ei
      have e := hI.out.all
      subst e
      go_wp2_with fail
      simp [bodyPost, results, Tryz.results15, go_sem]
      exact ⟨hI.out.gr, hI.out.at_⟩
set_option maxRecDepth 100000 in
set_option maxHeartbeats 2000000 in
theorem types_any (L : List PTyp) (a : Option Addr) (c B kk : Nat) (w : World) (hL : FIn 7 PTyp.vals B w a L) (hb : 56 * (L.length + 8) ≤ 281474976710656) (hB : B ≤ w.heap.size) (hk : kk < w.heap.size) : Calls Tryz.prog 16 #[.slice a L.length c] w fun x w' => ∃ s : Sl, x = .returned (.slice s.a s.l s.c) ∧ LsOk PTyp.vals typeZ kk w' L s ∧ Gr w w' := by
  obtain ⟨hm, hc, hl, hG⟩ := made_copy (b := 56) (Z := typeZ) (by omega) typ_len typ_one 3 Tryz.underlying53 (by kernel_rfl) (by kernel_rfl) L a c B kk w hL hB hb (by omega) hk
  have hle : (L.length : Int) ≤ (L.length : Int) + 8 := by omega
  have hl1 : L.length ≤ 281474976710648 := by omega
  have hw8 : wrap64 ((L.length : Int) + 8) = (L.length : Int) + 8 := by unfold wrap64; omega
  clear hL hb hB hk
  replace hl := Hid.mk hl
  replace hG := Hid.mk hG
  generalize World.setCells _ _ _ _ = W5 at *
  generalize w.alloc _ = W4 at *
  go_enter Tryz.func16, Tryz.ntmps16
  go_wp2_with fail
  go_ret
  exact ⟨⟨some ⟨w.heap.size, 0, none⟩, L.length, L.length + 8⟩, rfl, hl.out, hG.out⟩
end Q
end Go.Proofs.YtmmakknhaacplaaGreatDoor


/-
  Programs that are lent: lent, walked.
-/
namespace Go.Proofs.YtmmakknhaacplaaGreatDoor
namespace Q
open Go.RowKit

/-- The boxes of lent. -/
structure Ls (w : World) (im out : List Value) (W : World) : Prop where
  m : At W w.heap.size im.toArray
  res : At W (w.heap.size + 1) (List.toArray [Value.slice none 0 0, .slice none 0 0, .slice none 0 0, .int .i64 0])
  o : At W (w.heap.size + 1 + 1) out.toArray
  gr : Gr w W
theorem Ls.grow {w : World} {im out : List Value} {W W' : World} (h : Ls w im out W) (q : Gr W W') : Ls w im out W' := ⟨h.m.gr q, h.res.gr q, h.o.gr q, h.gr.trans q⟩
theorem Ls.sets {w : World} {im out : List Value} {W : World} (h : Ls w im out W) (b o : Nat) (vs : List Value) (hb : w.heap.size + 1 + 1 < b) : Ls w im out (W.setCells b o vs) :=
  ⟨h.m.other (by omega) o vs, h.res.other (by omega) o vs, h.o.other (by omega) o vs, h.gr.setCells b (by omega) vs o⟩
theorem Ls.set {w : World} {im out : List Value} {W : World} (h : Ls w im out W) (b o : Nat) (v : Value) (hb : w.heap.size + 1 + 1 < b) : Ls w im out (W.setCell ⟨b, o, none⟩ v) := h.sets b o [v] hb
theorem Ls.setO {w : World} {im out : List Value} {W : World} (h : Ls w im out W) (i : Nat) (hi : i < out.length) (v : Value) : Ls w im (out.set i v) (W.setCell ⟨w.heap.size + 1 + 1, i, none⟩ v) :=
  ⟨h.m.other (by omega) i [v], h.res.other (by omega) i [v], by have := h.o.set i v (by simpa using hi); simpa using this, h.gr.setCells (w.heap.size + 1 + 1) (by omega) [v] i⟩
theorem results_rowL {fn : Func} {p : Tmp} {ty : TypeId} {v : Value} {a : Addr} (h : fn.results = #[.cell p ty]) (tmps : Array Value) (w : World) (ht : tmps.getD p undef = .pointer (some a)) (hl : (loadVar ty a).run Tryz.prog w = .ok v w) :
    (results fn tmps).run Tryz.prog w = .ok v w := by
  have ht' : tmps[p]?.getD undef = .pointer (some a) := by simpa using ht
  simp [results, h, ht', asAddr, hl]
theorem w8_of (n : Nat) (h : n ≤ 281474976710648) : wrap64 ((n : Int) + 8) = (n : Int) + 8 := by unfold wrap64; omega
theorem x8_of (n : Nat) (h : n ≤ 281474976710648) : IntKind.i64.wrap ((n : Int) + 8) = (n : Int) + 8 := by rw [IntKind.wrap_i64]; omega
theorem Done.imp {α β : Type} {ok ok' : World → α → β → Prop} {mk : World → β → Prop} {W : World} {L : List α} {l : List β} {i : Nat} (h : Done ok mk W L l i) (k : ∀ a b, ok W a b → ok' W a b) : Done ok' mk W L l i := fun j hj => by
  refine ⟨fun q => ?_, fun q => (h j hj).2 q⟩
  obtain ⟨v, h1, h2⟩ := (h j hj).1 q
  exact ⟨v, h1, k _ _ h2⟩
theorem range4L {W : World} {b o : Nat} {v0 v1 v2 v3 : Value} (h0 : W.cell? ⟨b, o, none⟩ = some v0) (h1 : W.cell? ⟨b, o + 1, none⟩ = some v1) (h2 : W.cell? ⟨b, o + 1 + 1, none⟩ = some v2) (h3 : W.cell? ⟨b, o + 1 + 1 + 1, none⟩ = some v3) : W.rangeAt b o [v0, v1, v2, v3] := fun j v q => by
  match j with
  | 0 => simp at q; subst q; exact h0
  | 1 => simp at q; subst q; exact h1
  | 2 => simp at q; subst q; exact h2
  | 3 => simp at q; subst q; exact h3
  | j + 4 => simp at q
theorem cell_set_other {W : World} {k j k' j' : Nat} {v : Value} (h : k' ≠ k) : (W.setCell ⟨k, j, none⟩ v).cell? ⟨k', j', none⟩ = W.cell? ⟨k', j', none⟩ := by
  rw [World.cell?_of_block (a := ⟨k', j', none⟩) (setCell_block W k j k' v (Ne.symm h))]
set_option maxRecDepth 100000 in
set_option maxHeartbeats 16000000 in
theorem lent_any (m : PImg) (ra ca ga : Option Addr) (rc cc gc : Nat) (w : World) (hm : ImgIn w.heap.size w ra ca ga m) (hF : TwFit m) : Calls Tryz.prog 5 #[.agg [Value.slice ra m.regs.length rc, .slice ca m.comps.length cc, .slice ga m.gates.length gc, .int .i64 m.depth].toArray] w fun x w' => ∃ kk kr kc kg lr lc lg, x = .returned (.agg #[.slice (some ⟨kr, 0, none⟩) m.regs.length (m.regs.length + 8), .slice (some ⟨kc, 0, none⟩) m.comps.length (m.comps.length + 8), .slice (some ⟨kg, 0, none⟩) m.gates.length (m.gates.length + 8), .int .i64 m.depth]) ∧ Gr w w' ∧ LeIn kk kr kc kg w' m lr lc lg := by
  have l1 : m.regs.length ≤ 281474976710648 := by have := hF.r; omega
  have l2 : m.comps.length ≤ 281474976710648 := by have := hF.c; omega
  have l3 : m.gates.length ≤ 281474976710648 := by have := hF.g; omega
  have u1w : wrap64 ((m.regs.length : Int) + 8) = (m.regs.length : Int) + 8 := w8_of _ (by omega)
  have u1x : IntKind.i64.wrap ((m.regs.length : Int) + 8) = (m.regs.length : Int) + 8 := x8_of _ (by omega)
  have u1l : (m.regs.length : Int) ≤ (m.regs.length : Int) + 8 := by omega
  have u2w : wrap64 ((m.comps.length : Int) + 8) = (m.comps.length : Int) + 8 := w8_of _ (by omega)
  have u2x : IntKind.i64.wrap ((m.comps.length : Int) + 8) = (m.comps.length : Int) + 8 := x8_of _ (by omega)
  have u2l : (m.comps.length : Int) ≤ (m.comps.length : Int) + 8 := by omega
  have u3w : wrap64 ((m.gates.length : Int) + 8) = (m.gates.length : Int) + 8 := w8_of _ (by omega)
  have u3x : IntKind.i64.wrap ((m.gates.length : Int) + 8) = (m.gates.length : Int) + 8 := x8_of _ (by omega)
  have u3l : (m.gates.length : Int) ≤ (m.gates.length : Int) + 8 := by omega
  replace hm := Hid.mk hm
  replace hF := Hid.mk hF
  have eim := Hid.mk (show [Value.slice ra m.regs.length rc, .slice ca m.comps.length cc, .slice ga m.gates.length gc, .int .i64 m.depth] = [Value.slice ra m.regs.length rc, .slice ca m.comps.length cc, .slice ga m.gates.length gc, .int .i64 m.depth] from rfl)
  generalize hIM : [Value.slice ra m.regs.length rc, .slice ca m.comps.length cc, .slice ga m.gates.length gc, .int .i64 m.depth] = im at eim
  go_enter Tryz.func5, Tryz.ntmps5
  go_upto_region 1 with fail
  refine wp_world (fun W => At W w.heap.size im.toArray ∧ At W (w.heap.size + 1) (List.toArray [Value.slice none 0 0, .slice none 0 0, .slice none 0 0, .int .i64 0]) ∧ Gr w W ∧ W.heap.size = w.heap.size + 1 + 1) ⟨by rw [← hIM]; exact (At.at_ w _ _ rfl).alloc _, At.at_ _ _ _ (by simp), ((Gr.refl w).alloc _).alloc _, by simp⟩ ?_
  rintro Wa ⟨b0, b1, G, hs⟩
  replace b0 := Hid.mk b0
  replace b1 := Hid.mk b1
  replace G := Hid.mk G
  have c3 : Wa.cell? ⟨w.heap.size, 3, none⟩ = some (.int .i64 m.depth) := by rw [b0.out.2.1, ← hIM]; rfl
  go_upto_region 2 with fail
  clear c3
  refine wp_world (fun W => Ls w im [Value.slice none 0 0, .slice none 0 0, .slice none 0 0, .int .i64 m.depth] W) ⟨b0.out.alloc _, b1.out.alloc _, At.at_ _ _ _ hs, G.out.alloc _⟩ ?_
  intro Wb S0
  replace S0 := Hid.mk S0
  clear b0 b1 G hs
  have c0 : Wb.cell? ⟨w.heap.size, 0, none⟩ = some (.slice ra m.regs.length rc) := by rw [S0.out.m.2.1, ← hIM]; rfl
  have hmk := make_k (vals := RgV.vals) (Z := rgZ) (t := 22) (e := 47) (k := 4) (b := 56) (by omega) rg_len Tryz.underlying22 (by kernel_rfl) (m.regs.length + 8) (by omega) hF.out.r Wb
  rw [show ((m.regs.length + 8 : Nat) : Int) = (m.regs.length : Int) + 8 by omega] at hmk
  have hA := Hid.mk (At.new Wb (rowV [] RgV.vals (List.replicate (m.regs.length + 8) rgZ)).toArray 47)
  have hG := Hid.mk ((Gr.refl Wb).alloc (.cells (rowV [] RgV.vals (List.replicate (m.regs.length + 8) rgZ)).toArray 47))
  have krl : w.heap.size + 1 + 1 < Wb.heap.size := S0.out.o.1
  generalize Wb.alloc _ = Wc at *
  replace S0 := Hid.mk (S0.out.grow hG.out)
  have hks := Hid.mk (Nat.le_refl Wb.heap.size)
  go_upto_region 4 with fail
  clear hmk c0
  generalize hk0 : Wb.heap.size = kr at *
  replace hks : Hid (Wb.heap.size ≤ kr) := Hid.mk (Nat.le_of_eq hk0)
  clear hk0
  go_loopw [5] (fun x wr => ∃ (i : Nat) (l : List RgV), x = .int .i64 i ∧ i ≤ m.regs.length + 8 ∧ Hid (Ls w im [Value.slice none 0 0, .slice none 0 0, .slice none 0 0, .int .i64 m.depth] wr) ∧ Hid (At wr kr (rowV [] RgV.vals l).toArray) ∧ Hid (Row3 (RgOkL kr) (isV rg77) rgZ (m.regs.length + 8) wr m.regs l i) ∧ Hid (Gr Wb wr)) (fun x _ => m.regs.length + 8 - (intOf x).toNat)
  case atStart => exact ⟨0, _, rfl, by omega, S0, hA, Hid.mk (Row3.zero _ _ _ _ _ _), hG⟩
  case round =>
    clear S0 hA hG
    obtain ⟨i, l, rfl, hi, S1, hR, D0, G⟩ := hrel
    by_cases hlt : i < m.regs.length + 8
    · have hi1 : (i : Int) < (m.regs.length : Int) + 8 := by omega
      have e9 := D0.out.rest i (Nat.le_refl _) hlt
      obtain ⟨hil, e9'⟩ := List.getElem?_eq_some_iff.1 e9
      have c1 : wr.cell? ⟨kr, i * 4, none⟩ = some (.int .u64 0) := elem_atL rg_len hR.out i _ e9 0 _ rfl
      have f1 : wr.frozen? ⟨kr, i * 4, none⟩ = false := hR.out.2.2 _
      replace hR := Hid.mk (At.setOne rg_len hR.out i hil rg77 0 (.int .u64 77) (by omega) (by rw [e9']; rfl) (i * 4) (by omega))
      replace S1 := Hid.mk (S1.out.set kr (i * 4) (.int .u64 77) krl)
      replace D0 := Hid.mk (D0.out.keep (rgL_keep ((Kt.refl kr wr).set kr (i * 4) (.int .u64 77) (.inl (Nat.le_refl _)))) (fun _ h => h))
      replace G := Hid.mk (G.out.setCell kr (i * 4) (.int .u64 77) hks.out)
      clear e9 e9'
      go_upto_region 7 with fail
      clear c1 f1
      generalize World.setCell _ _ _ = V1 at *
      by_cases hn : i < m.regs.length
      · have hin : (i : Int) < (m.regs.length : Int) := by omega
        obtain ⟨rb, off, sa, sc, hra, hb1, _, k0, k1, k2, k3, kf⟩ := hm.out.regs i hn
        subst hra
        have hfit := hF.out.rs _ (List.getElem_mem hn)
        generalize hrg : m.regs[i] = rr at k0 k1 k2 k3 kf hfit
        have sfit : rr.slots.length ≤ 281474976710648 := by omega
        have sfb := hfit
        replace hrg := Hid.mk hrg
        replace k0 := Hid.mk k0
        replace k1 := Hid.mk k1
        replace k2 := Hid.mk k2
        replace k3 := Hid.mk k3
        replace kf := Hid.mk kf
        have c0 : V1.cell? ⟨w.heap.size, 0, none⟩ = some (.slice (some ⟨rb, off, none⟩) m.regs.length rc) := by rw [S1.out.m.2.1, ← hIM]; rfl
        have d0 := ((S1.out.gr.below.cell (p := ⟨rb, off + i * 4, none⟩) hb1).trans k0.out)
        have d1 := ((S1.out.gr.below.cell (p := ⟨rb, off + i * 4 + 1, none⟩) hb1).trans k1.out)
        have d2 := ((S1.out.gr.below.cell (p := ⟨rb, off + i * 4 + 1 + 1, none⟩) hb1).trans k2.out)
        have d3 := ((S1.out.gr.below.cell (p := ⟨rb, off + i * 4 + 1 + 1 + 1, none⟩) hb1).trans k3.out)
        go_upto_region 9 with fail
        clear c0 d0 d1 d2 d3
        have bx := Hid.mk (At.new V1 (List.toArray [Value.int .u64 rr.b, .int .u64 rr.n, .string (str rr.data), .slice sa rr.slots.length sc]) 47)
        have K1 := Hid.mk (Kt.refl kr V1)
        have hkx : kr < V1.heap.size := hR.out.1
        have hkw := Hid.mk (Nat.le_refl V1.heap.size)
        have hgx := Hid.mk G.out.below.size
        have q2 := (Gr.refl V1).alloc (.cells (List.toArray [Value.int .u64 rr.b, .int .u64 rr.n, .string (str rr.data), .slice sa rr.slots.length sc]) 47)
        replace S1 := Hid.mk (S1.out.grow q2)
        replace hR := Hid.mk (hR.out.gr q2)
        replace K1 := Hid.mk (K1.out.trans (Kt.gr q2))
        replace G := Hid.mk (G.out.trans q2)
        clear q2
        generalize V1.alloc _ = V2 at *
        generalize hx0 : V1.heap.size = kx at *
        replace hkw : Hid (V1.heap.size ≤ kx) := Hid.mk (Nat.le_of_eq hx0)
        clear hx0
        have c1 : V2.cell? ⟨kx, 3, none⟩ = some (.slice sa rr.slots.length sc) := bx.out.2.1 3
        have sw : wrap64 ((rr.slots.length : Int) + 8) = (rr.slots.length : Int) + 8 := w8_of _ sfit
        have sx : IntKind.i64.wrap ((rr.slots.length : Int) + 8) = (rr.slots.length : Int) + 8 := x8_of _ sfit
        have sl : (rr.slots.length : Int) ≤ (rr.slots.length : Int) + 8 := by omega
        obtain ⟨hmk, hcp, so, q1⟩ := made_copy (b := 64) (Z := slotZ) (by omega) slt_len slt_one 3 Tryz.underlying45 (by kernel_rfl) (by kernel_rfl) rr.slots sa sc w.heap.size kx V2 (kf.out.below S1.out.gr.below) S1.out.gr.below.size sfb sfit bx.out.1
        replace so := Hid.mk so
        have q9 := Hid.mk ((Gr.refl V2).alloc (.cells (rowV [] PSlot.vals (List.replicate (rr.slots.length + 8) slotZ)).toArray 68))
        replace q1 := Hid.mk q1
        generalize World.setCells _ _ _ _ = V3 at *
        generalize V2.alloc _ = V9 at *
        go_upto_region 10 with fail
        clear hmk c1
        have c1 : V9.cell? ⟨kx, 3, none⟩ = some (.slice sa rr.slots.length sc) := (bx.out.gr q9.out).2.1 3
        go_upto_region 11 with fail
        clear hcp c1 q9
        generalize hsk : V2.heap.size = sk at *
        replace hsk := Hid.mk (Nat.le_of_eq hsk)
        have c1 : V3.cell? ⟨kx, 3, none⟩ = some (.slice sa rr.slots.length sc) := (bx.out.gr q1.out).2.1 3
        obtain ⟨g9, e9, hk9, A9⟩ := so.out
        cases e9
        clear so
        have hcl := Hid.mk (mark_any V2 V3 sk rr.slots 8 (rr.slots.length * 8) 8 rfl A9 q1.out hsk.out (by omega))
        clear A9 q1
        go_wp2_with fail
        refine hcl.out.mono ?_
        rintro x V4 ⟨rfl, q4, A4⟩
        clear c1 hcl
        have so := Hid.mk (show LsOk PSlot.vals slot77 kx V4 rr.slots ⟨some ⟨sk, 0, none⟩, rr.slots.length, rr.slots.length + 8⟩ from ⟨sk, rfl, hk9, A4⟩)
        clear A4 hk9 hsk
        replace bx := Hid.mk (bx.out.gr q4)
        replace S1 := Hid.mk (S1.out.grow q4)
        replace hR := Hid.mk (hR.out.gr q4)
        replace K1 := Hid.mk (K1.out.trans (Kt.gr q4))
        replace G := Hid.mk (G.out.trans q4)
        clear q4
        have c1 : V4.cell? ⟨kx, 3, none⟩ = some (.slice sa rr.slots.length sc) := bx.out.2.1 3
        have f1 : V4.frozen? ⟨kx, 3, none⟩ = false := bx.out.2.2 3
        go_upto_region 13 with fail
        clear c1 f1
        have x9 := Hid.mk ((Kt.refl kx V4).set kx 3 (.slice (some ⟨sk, 0, none⟩) rr.slots.length (rr.slots.length + 8)) (.inl (Nat.le_refl _)))
        replace so := Hid.mk (so.out.keep x9.out)
        replace bx := Hid.mk (show At (World.setCell V4 ⟨kx, 3, none⟩ (.slice (some ⟨sk, 0, none⟩) rr.slots.length (rr.slots.length + 8))) kx (List.toArray (RgV.vals (⟨rr.b, rr.n, rr.data, ⟨some ⟨sk, 0, none⟩, rr.slots.length, rr.slots.length + 8⟩⟩ : RgV))) from bx.out.set 3 _ (by simp))
        replace S1 := Hid.mk (S1.out.set kx 3 (.slice (some ⟨sk, 0, none⟩) rr.slots.length (rr.slots.length + 8)) (by omega))
        replace hR := Hid.mk (hR.out.other (Nat.ne_of_lt hkx) 3 [.slice (some ⟨sk, 0, none⟩) rr.slots.length (rr.slots.length + 8)])
        replace K1 := Hid.mk (K1.out.set kx 3 (.slice (some ⟨sk, 0, none⟩) rr.slots.length (rr.slots.length + 8)) (.inr hkw.out))
        replace G := Hid.mk (G.out.setCell kx 3 (.slice (some ⟨sk, 0, none⟩) rr.slots.length (rr.slots.length + 8)) hgx.out)
        clear x9
        simp only [World.setCells] at hR
        generalize World.setCell _ _ _ = V5 at *
        refine wp_region_lit ?_
        refine wpList_plain rfl (fun K hK => ?_)
        go_simp
        with_reducible refine hK _ _ ?_
        clear hK K
        try simp only [Act.put, List.setIfInBounds_toArray, List.set_cons_zero, List.set_cons_succ]
        refine wpList_plain rfl (fun K hK => ?_)
        go_simp
        with_reducible refine hK _ _ ?_
        clear hK K
        try simp only [Act.put, List.setIfInBounds_toArray, List.set_cons_zero, List.set_cons_succ]
        refine wpList_plain rfl (fun K hK => ?_)
        refine wp_load_mid _ _ rfl _ 0 rfl (RgV.vals (⟨rr.b, rr.n, rr.data, ⟨some ⟨sk, 0, none⟩, rr.slots.length, rr.slots.length + 8⟩⟩ : RgV)) _ bx.out.range Tryz.underlying47 rfl (by kernel_rfl) (hK _ _ ?_)
        clear hK K
        try simp only [Act.put, List.setIfInBounds_toArray, List.set_cons_zero, List.set_cons_succ]
        refine wpList_plain rfl (fun K hK => ?_)
        go_simp
        with_reducible refine hK _ _ ?_
        clear hK K
        try simp only [Act.put, List.setIfInBounds_toArray, List.set_cons_zero, List.set_cons_succ]
        have hT := Hid.mk (hR.out.there (i * 4) 4 (by rw [row_len rg_len, List.length_set, D0.out.len]; simp; omega))
        have x9 := Hid.mk ((Kt.refl kx V5).sets kr (i * 4) (RgV.vals (⟨rr.b, rr.n, rr.data, ⟨some ⟨sk, 0, none⟩, rr.slots.length, rr.slots.length + 8⟩⟩ : RgV)) (.inl (by omega)))
        replace so := Hid.mk ((so.out.keep x9.out).mono (Nat.le_of_lt hkx))
        replace S1 := Hid.mk (S1.out.sets kr (i * 4) (RgV.vals (⟨rr.b, rr.n, rr.data, ⟨some ⟨sk, 0, none⟩, rr.slots.length, rr.slots.length + 8⟩⟩ : RgV)) krl)
        replace hR := Hid.mk (hR.out.setElem rg_len i (by rw [List.length_set, D0.out.len]; exact hlt) (⟨rr.b, rr.n, rr.data, ⟨some ⟨sk, 0, none⟩, rr.slots.length, rr.slots.length + 8⟩⟩ : RgV) (i * 4) (by simp))
        replace K1 := Hid.mk (K1.out.sets kr (i * 4) (RgV.vals (⟨rr.b, rr.n, rr.data, ⟨some ⟨sk, 0, none⟩, rr.slots.length, rr.slots.length + 8⟩⟩ : RgV)) (.inl (Nat.le_refl _)))
        replace G := Hid.mk (G.out.setCells kr hks.out (RgV.vals (⟨rr.b, rr.n, rr.data, ⟨some ⟨sk, 0, none⟩, rr.slots.length, rr.slots.length + 8⟩⟩ : RgV)) (i * 4))
        rw [List.set_set] at hR
        refine wpList_plain rfl (fun K hK => ?_)
        refine wp_store_mid _ _ _ rfl _ _ (List.toArray (RgV.vals (⟨rr.b, rr.n, rr.data, ⟨some ⟨sk, 0, none⟩, rr.slots.length, rr.slots.length + 8⟩⟩ : RgV))) rfl rfl hT.out (by kernel_rfl) (all_oneCell_toArray (rg_one _)) (hK _ _ ?_)
        clear hK K hT x9 bx
        try simp only [Act.put]
        generalize World.setCells _ _ _ _ = V6 at *
        have D1 := Hid.mk ((D0.out.keep (rgL_keep K1.out) (fun _ h => h)).next hlt (⟨rr.b, rr.n, rr.data, ⟨some ⟨sk, 0, none⟩, rr.slots.length, rr.slots.length + 8⟩⟩ : RgV) (fun _ => by rw [hrg.out]; exact ⟨rfl, rfl, rfl, so.out⟩) (fun h => by omega))
        clear K1 so D0 hrg k0 k1 k2 k3 kf sfit sfb hfit hkw hgx
        go_wp2_with fail
        exact ⟨⟨i + 1, _, by go_num, by omega, S1, hR, D1, G⟩, by simp [intOf]; omega⟩
      · have hin : ¬ (i : Int) < (m.regs.length : Int) := by omega
        have c0 : V1.cell? ⟨w.heap.size, 0, none⟩ = some (.slice ra m.regs.length rc) := by rw [S1.out.m.2.1, ← hIM]; rfl
        have D1 := Hid.mk (D0.out.next hlt rg77 (fun h => absurd h hn) (fun _ => rfl))
        go_wp2_with fail
        exact ⟨⟨i + 1, _, by go_num, by omega, S1, hR, D1, G⟩, by simp [intOf]; omega⟩
    · have hi1 : ¬ (i : Int) < (m.regs.length : Int) + 8 := by omega
      have ei : i = m.regs.length + 8 := by omega
      subst ei
      have DR := Hid.mk (Done.imp (ok' := RgOkL (w.heap.size + 1 + 1)) D0.out.done (fun a b h => ⟨h.1, h.2.1, h.2.2.1, h.2.2.2.mono (Nat.le_of_lt krl)⟩))
      have LR := Hid.mk D0.out.len
      have AR := hR
      clear hR D0 G hks
      generalize l = lr at *
      have c0 : wr.cell? ⟨w.heap.size, 0, none⟩ = some (.slice ra m.regs.length rc) := by rw [S1.out.m.2.1, ← hIM]; rfl
      have d1 : wr.cell? ⟨w.heap.size + 1 + 1, 0, none⟩ = some (.slice none 0 0) := S1.out.o.2.1 0
      have d2 : wr.frozen? ⟨w.heap.size + 1 + 1, 0, none⟩ = false := S1.out.o.2.2 0
      go_upto_region 15 with fail
      clear c0 d1 d2
      have K9 := Hid.mk ((Kt.refl (w.heap.size + 1 + 1) wr).set (w.heap.size + 1 + 1) 0 (.slice (some ⟨kr, 0, none⟩) m.regs.length (m.regs.length + 8)) (.inl (Nat.le_refl _)))
      have S0 : Hid (Ls w im [Value.slice (some ⟨kr, 0, none⟩) m.regs.length (m.regs.length + 8), .slice none 0 0, .slice none 0 0, .int .i64 m.depth] (wr.setCell ⟨w.heap.size + 1 + 1, 0, none⟩ (.slice (some ⟨kr, 0, none⟩) m.regs.length (m.regs.length + 8)))) := Hid.mk (S1.out.setO 0 (by simp) (.slice (some ⟨kr, 0, none⟩) m.regs.length (m.regs.length + 8)))
      clear S1
      replace DR := Hid.mk (DR.out.keep (rgL_keep K9.out) (fun _ h => h))
      replace AR := Hid.mk (AR.out.other (Nat.ne_of_gt krl) 0 [.slice (some ⟨kr, 0, none⟩) m.regs.length (m.regs.length + 8)])
      simp only [World.setCells] at AR
      clear K9
      generalize World.setCell _ _ _ = Wd at *
      have c0 : Wd.cell? ⟨w.heap.size, 1, none⟩ = some (.slice ca m.comps.length cc) := by rw [S0.out.m.2.1, ← hIM]; rfl
      have hmk := make_k (vals := CpV.vals) (Z := cpZ) (t := 23) (e := 52) (k := 2) (b := 48) (by omega) cp_len Tryz.underlying23 (by kernel_rfl) (m.comps.length + 8) (by omega) hF.out.c Wd
      rw [show ((m.comps.length + 8 : Nat) : Int) = (m.comps.length : Int) + 8 by omega] at hmk
      have hA := Hid.mk (At.new Wd (rowV [] CpV.vals (List.replicate (m.comps.length + 8) cpZ)).toArray 52)
      have hG := Hid.mk ((Gr.refl Wd).alloc (.cells (rowV [] CpV.vals (List.replicate (m.comps.length + 8) cpZ)).toArray 52))
      have kcl : w.heap.size + 1 + 1 < Wd.heap.size := S0.out.o.1
      generalize Wd.alloc _ = We at *
      replace S0 := Hid.mk (S0.out.grow hG.out)
      have hks := Hid.mk (Nat.le_refl Wd.heap.size)
      go_upto_region 17 with fail
      clear hmk c0
      generalize hk0 : Wd.heap.size = kc at *
      replace hks : Hid (Wd.heap.size ≤ kc) := Hid.mk (Nat.le_of_eq hk0)
      clear hk0
      go_loopw [9] (fun x wr => ∃ (i : Nat) (l : List CpV), x = .int .i64 i ∧ i ≤ m.comps.length ∧ Hid (Ls w im [Value.slice (some ⟨kr, 0, none⟩) m.regs.length (m.regs.length + 8), .slice none 0 0, .slice none 0 0, .int .i64 m.depth] wr) ∧ Hid (At wr kc (rowV [] CpV.vals l).toArray) ∧ Hid (Row3 (CpOkL kc) (isV cpZ) cpZ (m.comps.length + 8) wr m.comps l i) ∧ Hid (Gr Wd wr)) (fun x _ => m.comps.length - (intOf x).toNat)
      case atStart => exact ⟨0, _, rfl, by omega, S0, hA, Hid.mk (Row3.zero _ _ _ _ _ _), hG⟩
      case round =>
        clear S0 hA hG
        obtain ⟨i, l, rfl, hi, S1, hR, D0, G⟩ := hrel
        have c0 : wr.cell? ⟨w.heap.size, 1, none⟩ = some (.slice ca m.comps.length cc) := by rw [S1.out.m.2.1, ← hIM]; rfl
        by_cases hn : i < m.comps.length
        · have hlt : i < m.comps.length + 8 := by omega
          have hin : (i : Int) < (m.comps.length : Int) := by omega
          obtain ⟨rb, off, ra', rc', ka, kc', hca, hb1, _, k0, k1, kf, kl⟩ := hm.out.comps i hn
          subst hca
          have hfit := hF.out.cs _ (List.getElem_mem hn)
          generalize hrg : m.comps[i] = rr at k0 k1 kf kl hfit
          have sfit : rr.roots.length ≤ 281474976710648 := by omega
          have pfit : rr.code.length ≤ 281474976710648 := by omega
          have sfb := hfit.1
          have pfb := hfit.2
          replace hrg := Hid.mk hrg
          replace k0 := Hid.mk k0
          replace k1 := Hid.mk k1
          replace kf := Hid.mk kf
          have kg5 := Hid.mk kl.fin5
          clear kl
          have d0 := ((S1.out.gr.below.cell (p := ⟨rb, off + i * 2, none⟩) hb1).trans k0.out)
          have d1 := ((S1.out.gr.below.cell (p := ⟨rb, off + i * 2 + 1, none⟩) hb1).trans k1.out)
          go_upto_region 20 with fail
          clear c0 d0 d1
          have bx := Hid.mk (At.new wr (List.toArray [Value.slice ra' rr.roots.length rc', .slice ka rr.code.length kc']) 52)
          have K1 := Hid.mk (Kt.refl kc wr)
          have hkx : kc < wr.heap.size := hR.out.1
          have hgx := Hid.mk G.out.below.size
          have q2 := (Gr.refl wr).alloc (.cells (List.toArray [Value.slice ra' rr.roots.length rc', .slice ka rr.code.length kc']) 52)
          replace S1 := Hid.mk (S1.out.grow q2)
          replace hR := Hid.mk (hR.out.gr q2)
          replace K1 := Hid.mk (K1.out.trans (Kt.gr q2))
          replace G := Hid.mk (G.out.trans q2)
          clear q2
          generalize wr.alloc _ = V2 at *
          generalize wr.heap.size = kx at *
          have c1 : V2.cell? ⟨kx, 0, none⟩ = some (.slice ra' rr.roots.length rc') := bx.out.2.1 0
          have sw : wrap64 ((rr.roots.length : Int) + 8) = (rr.roots.length : Int) + 8 := w8_of _ sfit
          have sx : IntKind.i64.wrap ((rr.roots.length : Int) + 8) = (rr.roots.length : Int) + 8 := x8_of _ sfit
          have sl : (rr.roots.length : Int) ≤ (rr.roots.length : Int) + 8 := by omega
          obtain ⟨hmk, hcp, so, q1⟩ := made_copy (b := 48) (Z := rootZ) (by omega) rot_len rot_one 3 Tryz.underlying49 (by kernel_rfl) (by kernel_rfl) rr.roots ra' rc' w.heap.size kx V2 (kf.out.below S1.out.gr.below) S1.out.gr.below.size sfb sfit bx.out.1
          replace so := Hid.mk so
          have q9 := Hid.mk ((Gr.refl V2).alloc (.cells (rowV [] PRoot.vals (List.replicate (rr.roots.length + 8) rootZ)).toArray 70))
          replace q1 := Hid.mk q1
          generalize World.setCells _ _ _ _ = V3 at *
          generalize V2.alloc _ = V9 at *
          go_upto_region 21 with fail
          clear hmk c1
          have c1 : V9.cell? ⟨kx, 0, none⟩ = some (.slice ra' rr.roots.length rc') := (bx.out.gr q9.out).2.1 0
          go_upto_region 22 with fail
          clear hcp c1 q9
          generalize hsk : V2.heap.size = sk at *
          replace hsk := Hid.mk (Nat.le_of_eq hsk)
          replace bx := Hid.mk (bx.out.gr q1.out)
          replace S1 := Hid.mk (S1.out.grow q1.out)
          replace hR := Hid.mk (hR.out.gr q1.out)
          replace K1 := Hid.mk (K1.out.trans (Kt.gr q1.out))
          replace G := Hid.mk (G.out.trans q1.out)
          clear q1 hsk
          have c1 : V3.cell? ⟨kx, 1, none⟩ = some (.slice ka rr.code.length kc') := bx.out.2.1 1
          have pw : wrap64 ((rr.code.length : Int) + 8) = (rr.code.length : Int) + 8 := w8_of _ pfit
          have px : IntKind.i64.wrap ((rr.code.length : Int) + 8) = (rr.code.length : Int) + 8 := x8_of _ pfit
          have pl : (rr.code.length : Int) ≤ (rr.code.length : Int) + 8 := by omega
          obtain ⟨hmk, hcp, po, q1⟩ := made_copy (b := 40) (Z := instZ) (by omega) ins_len ins_one 3 Tryz.underlying50 (by kernel_rfl) (by kernel_rfl) rr.code ka kc' w.heap.size kx V3 (kg5.out.below S1.out.gr.below) S1.out.gr.below.size pfb pfit bx.out.1
          replace po := Hid.mk po
          have q9 := Hid.mk ((Gr.refl V3).alloc (.cells (rowV [] Ins.vals (List.replicate (rr.code.length + 8) instZ)).toArray 79))
          replace q1 := Hid.mk q1
          generalize World.setCells _ _ _ _ = V4 at *
          generalize V3.alloc _ = V9 at *
          go_upto_region 23 with fail
          clear hmk c1
          have c1 : V9.cell? ⟨kx, 1, none⟩ = some (.slice ka rr.code.length kc') := (bx.out.gr q9.out).2.1 1
          go_upto_region 24 with fail
          clear hcp c1 q9
          generalize hpk : V3.heap.size = pk at *
          replace hpk := Hid.mk (Nat.le_of_eq hpk)
          replace bx := Hid.mk (bx.out.gr q1.out)
          replace S1 := Hid.mk (S1.out.grow q1.out)
          replace hR := Hid.mk (hR.out.gr q1.out)
          replace K1 := Hid.mk (K1.out.trans (Kt.gr q1.out))
          replace G := Hid.mk (G.out.trans q1.out)
          replace so := Hid.mk (so.out.keep (Kt.gr q1.out))
          clear q1 hpk
          have e9 := D0.out.rest i (Nat.le_refl _) hlt
          obtain ⟨hil, e9'⟩ := List.getElem?_eq_some_iff.1 e9
          have c1 : V4.cell? ⟨kx, 0, none⟩ = some (.slice ra' rr.roots.length rc') := bx.out.2.1 0
          have e1 : V4.cell? ⟨kc, i * 2, none⟩ = some (.slice none 0 0) := elem_atL cp_len hR.out i _ e9 0 _ rfl
          have e2 : V4.frozen? ⟨kc, i * 2, none⟩ = false := hR.out.2.2 _
          go_upto_region 25 with fail
          clear e1 e2 c1
          have x9 := Hid.mk ((Kt.refl kx V4).set kc (i * 2) (.slice (some ⟨sk, 0, none⟩) rr.roots.length (rr.roots.length + 8)) (.inl (by omega)))
          replace so := Hid.mk (so.out.keep x9.out)
          replace po := Hid.mk (po.out.keep x9.out)
          replace bx := Hid.mk (bx.out.other (Nat.ne_of_gt hkx) (i * 2) [.slice (some ⟨sk, 0, none⟩) rr.roots.length (rr.roots.length + 8)])
          simp only [World.setCells] at bx
          replace S1 := Hid.mk (S1.out.set kc (i * 2) (.slice (some ⟨sk, 0, none⟩) rr.roots.length (rr.roots.length + 8)) kcl)
          replace hR := Hid.mk (At.setOne cp_len hR.out i (by simpa using hil) (⟨⟨some ⟨sk, 0, none⟩, rr.roots.length, rr.roots.length + 8⟩, nilS⟩ : CpV) 0 (.slice (some ⟨sk, 0, none⟩) rr.roots.length (rr.roots.length + 8)) (by omega) (by rw [e9']; rfl) (i * 2) (by omega))
          replace K1 := Hid.mk (K1.out.set kc (i * 2) (.slice (some ⟨sk, 0, none⟩) rr.roots.length (rr.roots.length + 8)) (.inl (Nat.le_refl _)))
          replace G := Hid.mk (G.out.setCell kc (i * 2) (.slice (some ⟨sk, 0, none⟩) rr.roots.length (rr.roots.length + 8)) hks.out)
          try rw [List.set_set] at hR
          clear x9
          generalize World.setCell _ _ _ = V5 at *
          have c1 : V5.cell? ⟨kx, 1, none⟩ = some (.slice ka rr.code.length kc') := bx.out.2.1 1
          have e1 : V5.cell? ⟨kc, i * 2 + 1, none⟩ = some (.slice none 0 0) := elem_atL cp_len hR.out i (⟨⟨some ⟨sk, 0, none⟩, rr.roots.length, rr.roots.length + 8⟩, nilS⟩ : CpV) (by simp [hil]) 1 _ rfl
          have e2 : V5.frozen? ⟨kc, i * 2 + 1, none⟩ = false := hR.out.2.2 _
          go_upto_region 26 with fail
          clear e1 e2 c1
          have x9 := Hid.mk ((Kt.refl kx V5).set kc (i * 2 + 1) (.slice (some ⟨pk, 0, none⟩) rr.code.length (rr.code.length + 8)) (.inl (by omega)))
          replace so := Hid.mk (so.out.keep x9.out)
          replace po := Hid.mk (po.out.keep x9.out)
          replace bx := Hid.mk (bx.out.other (Nat.ne_of_gt hkx) (i * 2 + 1) [.slice (some ⟨pk, 0, none⟩) rr.code.length (rr.code.length + 8)])
          simp only [World.setCells] at bx
          replace S1 := Hid.mk (S1.out.set kc (i * 2 + 1) (.slice (some ⟨pk, 0, none⟩) rr.code.length (rr.code.length + 8)) kcl)
          replace hR := Hid.mk (At.setOne cp_len hR.out i (by simpa using hil) (⟨⟨some ⟨sk, 0, none⟩, rr.roots.length, rr.roots.length + 8⟩, ⟨some ⟨pk, 0, none⟩, rr.code.length, rr.code.length + 8⟩⟩ : CpV) 1 (.slice (some ⟨pk, 0, none⟩) rr.code.length (rr.code.length + 8)) (by omega) (by simp; rfl) (i * 2 + 1) (by omega))
          replace K1 := Hid.mk (K1.out.set kc (i * 2 + 1) (.slice (some ⟨pk, 0, none⟩) rr.code.length (rr.code.length + 8)) (.inl (Nat.le_refl _)))
          replace G := Hid.mk (G.out.setCell kc (i * 2 + 1) (.slice (some ⟨pk, 0, none⟩) rr.code.length (rr.code.length + 8)) hks.out)
          try rw [List.set_set] at hR
          clear x9
          generalize World.setCell _ _ _ = V6 at *
          have D1 := Hid.mk ((D0.out.keep (cpL_keep K1.out) (fun _ h => h)).next hlt (⟨⟨some ⟨sk, 0, none⟩, rr.roots.length, rr.roots.length + 8⟩, ⟨some ⟨pk, 0, none⟩, rr.code.length, rr.code.length + 8⟩⟩ : CpV) (fun _ => by rw [hrg.out]; exact ⟨so.out.mono (Nat.le_of_lt hkx), po.out.mono (Nat.le_of_lt hkx)⟩) (fun h => by omega))
          clear K1 so po D0 hrg k0 k1 kf kg5 sfit pfit sfb pfb hfit hgx bx e9 e9'
          go_wp2_with fail
          exact ⟨⟨i + 1, _, by go_num, by omega, S1, hR, D1, G⟩, by simp [intOf]; omega⟩
        · have hin : ¬ (i : Int) < (m.comps.length : Int) := by omega
          have ei : i = m.comps.length := by omega
          subst ei
          clear c0
          have DC := Hid.mk (Done.imp (ok' := CpOkL (w.heap.size + 1 + 1)) D0.out.over (fun a b h => ⟨h.1.mono (Nat.le_of_lt kcl), h.2.mono (Nat.le_of_lt kcl)⟩))
          have LC := Hid.mk D0.out.len
          have AC := hR
          generalize l = lc at *
          replace DR := Hid.mk (DR.out.keep (rgL_keep (Kt.gr G.out)) (fun _ h => h))
          replace AR := Hid.mk (AR.out.gr G.out)
          clear hR D0 G hks
          have c0 : wr.cell? ⟨w.heap.size, 1, none⟩ = some (.slice ca m.comps.length cc) := by rw [S1.out.m.2.1, ← hIM]; rfl
          have d1 : wr.cell? ⟨w.heap.size + 1 + 1, 1, none⟩ = some (.slice none 0 0) := S1.out.o.2.1 1
          have d2 : wr.frozen? ⟨w.heap.size + 1 + 1, 1, none⟩ = false := S1.out.o.2.2 1
          go_upto_region 27 with fail
          clear c0 d1 d2
          have K9 := Hid.mk ((Kt.refl (w.heap.size + 1 + 1) wr).set (w.heap.size + 1 + 1) 1 (.slice (some ⟨kc, 0, none⟩) m.comps.length (m.comps.length + 8)) (.inl (Nat.le_refl _)))
          have S0 : Hid (Ls w im [Value.slice (some ⟨kr, 0, none⟩) m.regs.length (m.regs.length + 8), .slice (some ⟨kc, 0, none⟩) m.comps.length (m.comps.length + 8), .slice none 0 0, .int .i64 m.depth] (wr.setCell ⟨w.heap.size + 1 + 1, 1, none⟩ (.slice (some ⟨kc, 0, none⟩) m.comps.length (m.comps.length + 8)))) := Hid.mk (S1.out.setO 1 (by simp) (.slice (some ⟨kc, 0, none⟩) m.comps.length (m.comps.length + 8)))
          clear S1
          replace DR := Hid.mk (DR.out.keep (rgL_keep K9.out) (fun _ h => h))
          replace DC := Hid.mk (DC.out.keep (cpL_keep K9.out) (fun _ h => h))
          replace AR := Hid.mk (AR.out.other (Nat.ne_of_gt krl) 1 [.slice (some ⟨kc, 0, none⟩) m.comps.length (m.comps.length + 8)])
          replace AC := Hid.mk (AC.out.other (Nat.ne_of_gt kcl) 1 [.slice (some ⟨kc, 0, none⟩) m.comps.length (m.comps.length + 8)])
          simp only [World.setCells] at AR AC
          clear K9
          generalize World.setCell _ _ _ = Wf at *
          have c0 : Wf.cell? ⟨w.heap.size, 2, none⟩ = some (.slice ga m.gates.length gc) := by rw [S0.out.m.2.1, ← hIM]; rfl
          have hmk := make_k (vals := GtV.vals) (Z := gtZ) (t := 24) (e := 55) (k := 4) (b := 64) (by omega) gt_len Tryz.underlying24 (by kernel_rfl) (m.gates.length + 8) (by omega) hF.out.g Wf
          rw [show ((m.gates.length + 8 : Nat) : Int) = (m.gates.length : Int) + 8 by omega] at hmk
          have hA := Hid.mk (At.new Wf (rowV [] GtV.vals (List.replicate (m.gates.length + 8) gtZ)).toArray 55)
          have hG := Hid.mk ((Gr.refl Wf).alloc (.cells (rowV [] GtV.vals (List.replicate (m.gates.length + 8) gtZ)).toArray 55))
          have kgl : w.heap.size + 1 + 1 < Wf.heap.size := S0.out.o.1
          generalize Wf.alloc _ = Wh at *
          replace S0 := Hid.mk (S0.out.grow hG.out)
          have hks := Hid.mk (Nat.le_refl Wf.heap.size)
          go_upto_region 29 with fail
          clear hmk c0
          generalize hk0 : Wf.heap.size = kg at *
          replace hks : Hid (Wf.heap.size ≤ kg) := Hid.mk (Nat.le_of_eq hk0)
          clear hk0
          go_loopw [14] (fun x wr => ∃ (i : Nat) (l : List GtV), x = .int .i64 i ∧ i ≤ m.gates.length ∧ Hid (Ls w im [Value.slice (some ⟨kr, 0, none⟩) m.regs.length (m.regs.length + 8), .slice (some ⟨kc, 0, none⟩) m.comps.length (m.comps.length + 8), .slice none 0 0, .int .i64 m.depth] wr) ∧ Hid (At wr kg (rowV [] GtV.vals l).toArray) ∧ Hid (Row3 (GtOkL kg) (isV gtZ) gtZ (m.gates.length + 8) wr m.gates l i) ∧ Hid (Gr Wf wr)) (fun x _ => m.gates.length - (intOf x).toNat)
          case atStart => exact ⟨0, _, rfl, by omega, S0, hA, Hid.mk (Row3.zero _ _ _ _ _ _), hG⟩
          case round =>
            clear S0 hA hG
            obtain ⟨i, l, rfl, hi, S1, hR, D0, G⟩ := hrel
            have c0 : wr.cell? ⟨w.heap.size, 2, none⟩ = some (.slice ga m.gates.length gc) := by rw [S1.out.m.2.1, ← hIM]; rfl
            by_cases hn : i < m.gates.length
            · have hlt : i < m.gates.length + 8 := by omega
              have hin : (i : Int) < (m.gates.length : Int) := by omega
              have hin8 : (i : Int) < (m.gates.length : Int) + 8 := by omega
              obtain ⟨rb, off, xa, xc, ya, yc, hga, hb1, _, k0, k1, k2, k3, kf, kl⟩ := hm.out.gates i hn
              subst hga
              have hfit := hF.out.gs _ (List.getElem_mem hn)
              generalize hrg : m.gates[i] = rr at k0 k1 k2 k3 kf kl hfit
              replace hrg := Hid.mk hrg
              replace k0 := Hid.mk k0
              replace k1 := Hid.mk k1
              replace k2 := Hid.mk k2
              replace k3 := Hid.mk k3
              replace kf := Hid.mk kf
              replace kl := Hid.mk kl
              have e9 := D0.out.rest i (Nat.le_refl _) hlt
              obtain ⟨hil, e9'⟩ := List.getElem?_eq_some_iff.1 e9
              clear e9'
              have rg := Hid.mk (range4L ((S1.out.gr.below.cell (p := ⟨rb, off + i * 4, none⟩) hb1).trans k0.out) ((S1.out.gr.below.cell (p := ⟨rb, off + i * 4 + 1, none⟩) hb1).trans k1.out) ((S1.out.gr.below.cell (p := ⟨rb, off + i * 4 + 1 + 1, none⟩) hb1).trans k2.out) ((S1.out.gr.below.cell (p := ⟨rb, off + i * 4 + 1 + 1 + 1, none⟩) hb1).trans k3.out))
              go_upto_region 31 with fail
              refine wp_region_lit ?_
              refine wpList_plain rfl (fun K hK => ?_)
              go_simp
              with_reducible refine hK _ _ ?_
              clear hK K
              try simp only [Act.put, List.setIfInBounds_toArray, List.set_cons_zero, List.set_cons_succ]
              refine wpList_plain rfl (fun K hK => ?_)
              go_simp
              with_reducible refine hK _ _ ?_
              clear hK K
              try simp only [Act.put, List.setIfInBounds_toArray, List.set_cons_zero, List.set_cons_succ]
              refine wpList_plain rfl (fun K hK => ?_)
              go_simp
              with_reducible refine hK _ _ ?_
              clear hK K
              try simp only [Act.put, List.setIfInBounds_toArray, List.set_cons_zero, List.set_cons_succ]
              refine wpList_plain rfl (fun K hK => ?_)
              go_simp
              with_reducible refine hK _ _ ?_
              clear hK K
              try simp only [Act.put, List.setIfInBounds_toArray, List.set_cons_zero, List.set_cons_succ]
              refine wpList_plain rfl (fun K hK => ?_)
              go_simp
              with_reducible refine hK _ _ ?_
              clear hK K
              try simp only [Act.put, List.setIfInBounds_toArray, List.set_cons_zero, List.set_cons_succ]
              refine wpList_plain rfl (fun K hK => ?_)
              go_simp
              with_reducible refine hK _ _ ?_
              clear hK K
              try simp only [Act.put, List.setIfInBounds_toArray, List.set_cons_zero, List.set_cons_succ]
              refine wpList_plain rfl (fun K hK => ?_)
              refine wp_load_mid _ _ rfl _ (off + i * 4) rfl [Value.int .i64 rr.c, .int .i64 rr.e, .slice xa rr.args.length xc, .slice ya rr.res.length yc] _ rg.out Tryz.underlying55 rfl (by kernel_rfl) (hK _ _ ?_)
              clear hK K
              try simp only [Act.put, List.setIfInBounds_toArray, List.set_cons_zero, List.set_cons_succ]
              refine wpList_plain rfl (fun K hK => ?_)
              go_simp
              with_reducible refine hK _ _ ?_
              clear hK K
              try simp only [Act.put, List.setIfInBounds_toArray, List.set_cons_zero, List.set_cons_succ]
              have hT := Hid.mk (hR.out.there (i * 4) 4 (by rw [row_len gt_len, D0.out.len]; simp; omega))
              have K1 := Hid.mk ((Kt.refl kg wr).sets kg (i * 4) (GtV.vals (⟨rr.c, rr.e, ⟨xa, rr.args.length, xc⟩, ⟨ya, rr.res.length, yc⟩⟩ : GtV)) (.inl (Nat.le_refl _)))
              replace S1 := Hid.mk (S1.out.sets kg (i * 4) (GtV.vals (⟨rr.c, rr.e, ⟨xa, rr.args.length, xc⟩, ⟨ya, rr.res.length, yc⟩⟩ : GtV)) kgl)
              replace hR := Hid.mk (hR.out.setElem gt_len i hil (⟨rr.c, rr.e, ⟨xa, rr.args.length, xc⟩, ⟨ya, rr.res.length, yc⟩⟩ : GtV) (i * 4) (by simp))
              replace G := Hid.mk (G.out.setCells kg hks.out (GtV.vals (⟨rr.c, rr.e, ⟨xa, rr.args.length, xc⟩, ⟨ya, rr.res.length, yc⟩⟩ : GtV)) (i * 4))
              refine wpList_plain rfl (fun K hK => ?_)
              refine wp_store_mid _ _ _ rfl _ _ (List.toArray (GtV.vals (⟨rr.c, rr.e, ⟨xa, rr.args.length, xc⟩, ⟨ya, rr.res.length, yc⟩⟩ : GtV))) rfl rfl hT.out (by kernel_rfl) (all_oneCell_toArray (gt_one _)) (hK _ _ ?_)
              clear hK K hT rg c0 e9
              try simp only [Act.put]
              generalize World.setCells _ _ _ _ = V1 at *
              have c0 : V1.cell? ⟨w.heap.size, 2, none⟩ = some (.slice (some ⟨rb, off, none⟩) m.gates.length gc) := by rw [S1.out.m.2.1, ← hIM]; rfl
              have d1 : V1.cell? ⟨rb, off + i * 4 + 1 + 1, none⟩ = some (.slice xa rr.args.length xc) := ((S1.out.gr.below.cell (p := ⟨rb, off + i * 4 + 1 + 1, none⟩) hb1).trans k2.out)
              have hcl := Hid.mk (types_any rr.args xa xc w.heap.size kg V1 (kf.out.below S1.out.gr.below) hfit.1 S1.out.gr.below.size hR.out.1)
              go_wp2_with fail
              refine hcl.out.mono ?_
              rintro x V2 ⟨s, rfl, so, q1⟩
              clear c0 d1 hcl
              replace so := Hid.mk so
              replace S1 := Hid.mk (S1.out.grow q1)
              replace hR := Hid.mk (hR.out.gr q1)
              replace K1 := Hid.mk (K1.out.trans (Kt.gr q1))
              replace G := Hid.mk (G.out.trans q1)
              clear q1
              go_upto_region 33 with fail
              have c0 : V2.cell? ⟨w.heap.size, 2, none⟩ = some (.slice (some ⟨rb, off, none⟩) m.gates.length gc) := by rw [S1.out.m.2.1, ← hIM]; rfl
              have d1 : V2.cell? ⟨rb, off + i * 4 + 1 + 1 + 1, none⟩ = some (.slice ya rr.res.length yc) := ((S1.out.gr.below.cell (p := ⟨rb, off + i * 4 + 1 + 1 + 1, none⟩) hb1).trans k3.out)
              have hcl := Hid.mk (types_any rr.res ya yc w.heap.size kg V2 (kl.out.below S1.out.gr.below) hfit.2 S1.out.gr.below.size hR.out.1)
              go_wp2_with fail
              refine hcl.out.mono ?_
              rintro x V3 ⟨t, rfl, tq, q1⟩
              clear c0 d1 hcl
              replace tq := Hid.mk tq
              replace S1 := Hid.mk (S1.out.grow q1)
              replace hR := Hid.mk (hR.out.gr q1)
              replace K1 := Hid.mk (K1.out.trans (Kt.gr q1))
              replace G := Hid.mk (G.out.trans q1)
              replace so := Hid.mk (so.out.keep (Kt.gr q1))
              clear q1
              go_upto_region 34 with fail
              have e1 : V3.cell? ⟨kg, i * 4 + 1 + 1, none⟩ = some (.slice xa rr.args.length xc) := elem_atL gt_len hR.out i (⟨rr.c, rr.e, ⟨xa, rr.args.length, xc⟩, ⟨ya, rr.res.length, yc⟩⟩ : GtV) (by simp [hil]) 2 _ rfl
              have e2 : V3.frozen? ⟨kg, i * 4 + 1 + 1, none⟩ = false := hR.out.2.2 _
              go_upto_region 35 with fail
              clear e1 e2
              have x9 := Hid.mk ((Kt.refl kg V3).set kg (i * 4 + 1 + 1) (.slice s.a s.l s.c) (.inl (by omega)))
              replace so := Hid.mk (so.out.keep x9.out)
              replace tq := Hid.mk (tq.out.keep x9.out)
              replace S1 := Hid.mk (S1.out.set kg (i * 4 + 1 + 1) (.slice s.a s.l s.c) kgl)
              replace hR := Hid.mk (At.setOne gt_len hR.out i (by simpa using hil) (⟨rr.c, rr.e, s, ⟨ya, rr.res.length, yc⟩⟩ : GtV) 2 (.slice s.a s.l s.c) (by omega) (by simp; rfl) (i * 4 + 1 + 1) (by omega))
              replace K1 := Hid.mk (K1.out.set kg (i * 4 + 1 + 1) (.slice s.a s.l s.c) (.inl (Nat.le_refl _)))
              replace G := Hid.mk (G.out.setCell kg (i * 4 + 1 + 1) (.slice s.a s.l s.c) hks.out)
              try rw [List.set_set] at hR
              clear x9
              generalize World.setCell _ _ _ = V4 at *
              have e1 : V4.cell? ⟨kg, i * 4 + 1 + 1 + 1, none⟩ = some (.slice ya rr.res.length yc) := elem_atL gt_len hR.out i (⟨rr.c, rr.e, s, ⟨ya, rr.res.length, yc⟩⟩ : GtV) (by simp [hil]) 3 _ rfl
              have e2 : V4.frozen? ⟨kg, i * 4 + 1 + 1 + 1, none⟩ = false := hR.out.2.2 _
              go_upto_region 36 with fail
              clear e1 e2
              have x9 := Hid.mk ((Kt.refl kg V4).set kg (i * 4 + 1 + 1 + 1) (.slice t.a t.l t.c) (.inl (by omega)))
              replace so := Hid.mk (so.out.keep x9.out)
              replace tq := Hid.mk (tq.out.keep x9.out)
              replace S1 := Hid.mk (S1.out.set kg (i * 4 + 1 + 1 + 1) (.slice t.a t.l t.c) kgl)
              replace hR := Hid.mk (At.setOne gt_len hR.out i (by simpa using hil) (⟨rr.c, rr.e, s, t⟩ : GtV) 3 (.slice t.a t.l t.c) (by omega) (by simp; rfl) (i * 4 + 1 + 1 + 1) (by omega))
              replace K1 := Hid.mk (K1.out.set kg (i * 4 + 1 + 1 + 1) (.slice t.a t.l t.c) (.inl (Nat.le_refl _)))
              replace G := Hid.mk (G.out.setCell kg (i * 4 + 1 + 1 + 1) (.slice t.a t.l t.c) hks.out)
              try rw [List.set_set] at hR
              clear x9
              generalize World.setCell _ _ _ = V5 at *
              have D1 := Hid.mk ((D0.out.keep (gtL_keep K1.out) (fun _ h => h)).next hlt (⟨rr.c, rr.e, s, t⟩ : GtV) (fun _ => by rw [hrg.out]; exact ⟨rfl, rfl, so.out, tq.out⟩) (fun h => by omega))
              clear K1 so tq D0 hrg k0 k1 k2 k3 kf kl hfit
              go_wp2_with fail
              exact ⟨⟨i + 1, _, by go_num, by omega, S1, hR, D1, G⟩, by simp [intOf]; omega⟩
            · have hin : ¬ (i : Int) < (m.gates.length : Int) := by omega
              have ei : i = m.gates.length := by omega
              subst ei
              clear c0
              have DG := Hid.mk (Done.imp (ok' := GtOkL (w.heap.size + 1 + 1)) D0.out.over (fun a b h => ⟨h.1, h.2.1, h.2.2.1.mono (Nat.le_of_lt kgl), h.2.2.2.mono (Nat.le_of_lt kgl)⟩))
              have LG := Hid.mk D0.out.len
              have AG := hR
              generalize l = lg at *
              replace DR := Hid.mk (DR.out.keep (rgL_keep (Kt.gr G.out)) (fun _ h => h))
              replace DC := Hid.mk (DC.out.keep (cpL_keep (Kt.gr G.out)) (fun _ h => h))
              replace AR := Hid.mk (AR.out.gr G.out)
              replace AC := Hid.mk (AC.out.gr G.out)
              clear hR D0 G hks
              have c0 : wr.cell? ⟨w.heap.size, 2, none⟩ = some (.slice ga m.gates.length gc) := by rw [S1.out.m.2.1, ← hIM]; rfl
              have d1 : wr.cell? ⟨w.heap.size + 1 + 1, 2, none⟩ = some (.slice none 0 0) := S1.out.o.2.1 2
              have d2 : wr.frozen? ⟨w.heap.size + 1 + 1, 2, none⟩ = false := S1.out.o.2.2 2
              go_upto_region 37 with fail
              clear c0 d1 d2
              have K9 := Hid.mk ((Kt.refl (w.heap.size + 1 + 1) wr).set (w.heap.size + 1 + 1) 2 (.slice (some ⟨kg, 0, none⟩) m.gates.length (m.gates.length + 8)) (.inl (Nat.le_refl _)))
              have S0 : Hid (Ls w im [Value.slice (some ⟨kr, 0, none⟩) m.regs.length (m.regs.length + 8), .slice (some ⟨kc, 0, none⟩) m.comps.length (m.comps.length + 8), .slice (some ⟨kg, 0, none⟩) m.gates.length (m.gates.length + 8), .int .i64 m.depth] (wr.setCell ⟨w.heap.size + 1 + 1, 2, none⟩ (.slice (some ⟨kg, 0, none⟩) m.gates.length (m.gates.length + 8)))) := Hid.mk (S1.out.setO 2 (by simp) (.slice (some ⟨kg, 0, none⟩) m.gates.length (m.gates.length + 8)))
              clear S1
              replace DR := Hid.mk (DR.out.keep (rgL_keep K9.out) (fun _ h => h))
              replace DC := Hid.mk (DC.out.keep (cpL_keep K9.out) (fun _ h => h))
              replace DG := Hid.mk (DG.out.keep (gtL_keep K9.out) (fun _ h => h))
              replace AR := Hid.mk (AR.out.other (Nat.ne_of_gt krl) 2 [.slice (some ⟨kg, 0, none⟩) m.gates.length (m.gates.length + 8)])
              replace AC := Hid.mk (AC.out.other (Nat.ne_of_gt kcl) 2 [.slice (some ⟨kg, 0, none⟩) m.gates.length (m.gates.length + 8)])
              replace AG := Hid.mk (AG.out.other (Nat.ne_of_gt kgl) 2 [.slice (some ⟨kg, 0, none⟩) m.gates.length (m.gates.length + 8)])
              simp only [World.setCells] at AR AC AG
              clear K9
              generalize World.setCell _ _ _ = Wg at *
              refine wp_region_lit ?_
              refine wpList_plain rfl (fun K hK => ?_)
              refine wp_load_mid _ _ rfl _ 0 rfl [Value.slice (some ⟨kr, 0, none⟩) m.regs.length (m.regs.length + 8), .slice (some ⟨kc, 0, none⟩) m.comps.length (m.comps.length + 8), .slice (some ⟨kg, 0, none⟩) m.gates.length (m.gates.length + 8), .int .i64 m.depth] _ S0.out.o.range Tryz.underlying26 rfl (by kernel_rfl) (hK _ _ ?_)
              clear hK K
              try simp only [Act.put, List.setIfInBounds_toArray, List.set_cons_zero, List.set_cons_succ]
              have hT := Hid.mk (S0.out.res.there 0 4 (by simp))
              have K9 := Hid.mk ((Kt.refl (w.heap.size + 1 + 1) Wg).sets (w.heap.size + 1) 0 [Value.slice (some ⟨kr, 0, none⟩) m.regs.length (m.regs.length + 8), .slice (some ⟨kc, 0, none⟩) m.comps.length (m.comps.length + 8), .slice (some ⟨kg, 0, none⟩) m.gates.length (m.gates.length + 8), .int .i64 m.depth] (.inl (by omega)))
              have G9 := Hid.mk (S0.out.gr.setCells (w.heap.size + 1) (by omega) [Value.slice (some ⟨kr, 0, none⟩) m.regs.length (m.regs.length + 8), .slice (some ⟨kc, 0, none⟩) m.comps.length (m.comps.length + 8), .slice (some ⟨kg, 0, none⟩) m.gates.length (m.gates.length + 8), .int .i64 m.depth] 0)
              have S9 := Hid.mk (S0.out.res.setAll [Value.slice (some ⟨kr, 0, none⟩) m.regs.length (m.regs.length + 8), .slice (some ⟨kc, 0, none⟩) m.comps.length (m.comps.length + 8), .slice (some ⟨kg, 0, none⟩) m.gates.length (m.gates.length + 8), .int .i64 m.depth] rfl).range
              have TI9 : Hid (LeIn (w.heap.size + 1 + 1) kr kc kg (World.setCells Wg (w.heap.size + 1) 0 [Value.slice (some ⟨kr, 0, none⟩) m.regs.length (m.regs.length + 8), .slice (some ⟨kc, 0, none⟩) m.comps.length (m.comps.length + 8), .slice (some ⟨kg, 0, none⟩) m.gates.length (m.gates.length + 8), .int .i64 m.depth]) m lr lc lg) := Hid.mk ⟨AR.out.other (by omega) _ _, AC.out.other (by omega) _ _, AG.out.other (by omega) _ _, LR.out, LC.out, LG.out, DR.out.keep (rgL_keep K9.out) (fun _ h => h), DC.out.keep (cpL_keep K9.out) (fun _ h => h), DG.out.keep (gtL_keep K9.out) (fun _ h => h)⟩
              refine wpList_plain rfl (fun K hK => ?_)
              refine wp_store_mid _ _ _ rfl _ _ (List.toArray [Value.slice (some ⟨kr, 0, none⟩) m.regs.length (m.regs.length + 8), .slice (some ⟨kc, 0, none⟩) m.comps.length (m.comps.length + 8), .slice (some ⟨kg, 0, none⟩) m.gates.length (m.gates.length + 8), .int .i64 m.depth]) rfl rfl hT.out (by kernel_rfl) (all_oneCell_toArray (by intro v hv; simp at hv; rcases hv with rfl | rfl | rfl | rfl <;> rfl)) (hK _ _ ?_)
              clear hK K hT S0 DR DC DG LR LC LG AR AC AG K9
              try simp only [Act.put]
              generalize World.setCells _ _ _ _ = Wz at *
              have hrun := Hid.mk (run_loadVar_mid (P := Tryz.prog) Wz (w.heap.size + 1) 0 26 [Value.slice (some ⟨kr, 0, none⟩) m.regs.length (m.regs.length + 8), .slice (some ⟨kc, 0, none⟩) m.comps.length (m.comps.length + 8), .slice (some ⟨kg, 0, none⟩) m.gates.length (m.gates.length + 8), .int .i64 m.depth] _ S9.out Tryz.underlying26 rfl (by kernel_rfl))
              clear S9
              go_wp2_with fail
              refine bodyPost_ret (v := .agg (List.toArray [Value.slice (some ⟨kr, 0, none⟩) m.regs.length (m.regs.length + 8), .slice (some ⟨kc, 0, none⟩) m.comps.length (m.comps.length + 8), .slice (some ⟨kg, 0, none⟩) m.gates.length (m.gates.length + 8), .int .i64 m.depth])) ?_ rfl ⟨(w.heap.size + 1 + 1), kr, kc, kg, rfl, G9.out, lr, lc, lg, TI9.out⟩
              exact results_rowL Tryz.results5 _ _ rfl hrun.out
end Q
end Go.Proofs.YtmmakknhaacplaaGreatDoor


/-
  The document's Right of any program.
-/
namespace Go.Proofs.YtmmakknhaacplaaGreatDoor
namespace Q
open Go.RowKit

theorem gr_belowR {w W : World} {B : Nat} (g : Gr w W) (hB : B ≤ w.heap.size) : Below B w W := ⟨g.below.os, g.below.tape, g.below.output, g.below.size, fun k hk => g.below.block k (by omega)⟩
theorem range2L {W : World} {b o : Nat} {v0 v1 : Value} (h0 : W.cell? ⟨b, o, none⟩ = some v0) (h1 : W.cell? ⟨b, o + 1, none⟩ = some v1) : W.rangeAt b o [v0, v1] := fun j v q => by
  match j with
  | 0 => simp at q; subst q; exact h0
  | 1 => simp at q; subst q; exact h1
  | j + 2 => simp at q
theorem drop_at {α : Type} (L : List α) (i : Nat) (h : i < L.length) : L.drop i = L[i] :: L.drop (i + 1) := List.drop_eq_getElem_cons h
theorem regE_place {r : PReg} {f : Int} (hb : 0 ≤ r.b) (h : regE r f = 0) : r.b < 65536 ∧ r.n ≤ 65536 := by
  unfold regE at h
  by_cases q : (placeB r.b r.n f && contentB r.n r.data r.slots.length) = true
  · rw [Bool.and_eq_true] at q
    have q1 := q.1
    unfold placeB at q1
    simp only [Bool.and_eq_true, decide_eq_true_eq, beq_iff_eq] at q1
    obtain ⟨⟨⟨⟨⟨_, _⟩, _⟩, _⟩, h1⟩, h2⟩ := q1
    exact ⟨h1, by omega⟩
  · rw [if_neg q] at h
    cases h
set_option maxRecDepth 100000 in
set_option maxHeartbeats 16000000 in
theorem refRight_any (m : PImg) (ra ca ga : Option Addr) (rc cc gc : Nat) (w : World) (hm0 : ImgIn w.heap.size w ra ca ga m) (hr : m.Rng) : Calls Tryz.prog 19 #[.agg #[.slice ra m.regs.length rc, .slice ca m.comps.length cc, .slice ga m.gates.length gc, .int .i64 m.depth]] w fun x w' => x = .returned (.int .i64 m.right) ∧ Gr w w' := by
  by_cases h0 : 8 < (m.regs.length : Int)
  · have hz : m.right = 42 := by
      unfold PImg.right
      rw [if_neg (by unfold countsB; simp only [Bool.and_eq_true, decide_eq_true_eq]; omega)]
    rw [hz]
    clear hz hr hm0
    go_enter Tryz.func19, Tryz.ntmps19
    go_wp2_with fail
    go_ret
    refine ⟨rfl, ?_⟩
    (with_reducible repeat (first | exact Gr.refl _ | refine Gr.alloc ?_ _ | refine Gr.grow ?_ _ | refine Gr.drew ?_ | refine Gr.setCell ?_ _ _ _ (gr_size ?_)))
  by_cases h1 : (m.comps.length : Int) < 1
  · have hz : m.right = 42 := by
      unfold PImg.right
      rw [if_neg (by unfold countsB; simp only [Bool.and_eq_true, decide_eq_true_eq]; omega)]
    rw [hz]
    clear hz hr hm0
    go_enter Tryz.func19, Tryz.ntmps19
    go_wp2_with fail
    go_ret
    refine ⟨rfl, ?_⟩
    (with_reducible repeat (first | exact Gr.refl _ | refine Gr.alloc ?_ _ | refine Gr.grow ?_ _ | refine Gr.drew ?_ | refine Gr.setCell ?_ _ _ _ (gr_size ?_)))
  by_cases h2 : 4 < (m.comps.length : Int)
  · have hz : m.right = 42 := by
      unfold PImg.right
      rw [if_neg (by unfold countsB; simp only [Bool.and_eq_true, decide_eq_true_eq]; omega)]
    rw [hz]
    clear hz hr hm0
    go_enter Tryz.func19, Tryz.ntmps19
    go_wp2_with fail
    go_ret
    refine ⟨rfl, ?_⟩
    (with_reducible repeat (first | exact Gr.refl _ | refine Gr.alloc ?_ _ | refine Gr.grow ?_ _ | refine Gr.drew ?_ | refine Gr.setCell ?_ _ _ _ (gr_size ?_)))
  by_cases h3 : (m.gates.length : Int) < 1
  · have hz : m.right = 42 := by
      unfold PImg.right
      rw [if_neg (by unfold countsB; simp only [Bool.and_eq_true, decide_eq_true_eq]; omega)]
    rw [hz]
    clear hz hr hm0
    go_enter Tryz.func19, Tryz.ntmps19
    go_wp2_with fail
    go_ret
    refine ⟨rfl, ?_⟩
    (with_reducible repeat (first | exact Gr.refl _ | refine Gr.alloc ?_ _ | refine Gr.grow ?_ _ | refine Gr.drew ?_ | refine Gr.setCell ?_ _ _ _ (gr_size ?_)))
  by_cases h4 : 16 < (m.gates.length : Int)
  · have hz : m.right = 42 := by
      unfold PImg.right
      rw [if_neg (by unfold countsB; simp only [Bool.and_eq_true, decide_eq_true_eq]; omega)]
    rw [hz]
    clear hz hr hm0
    go_enter Tryz.func19, Tryz.ntmps19
    go_wp2_with fail
    go_ret
    refine ⟨rfl, ?_⟩
    (with_reducible repeat (first | exact Gr.refl _ | refine Gr.alloc ?_ _ | refine Gr.grow ?_ _ | refine Gr.drew ?_ | refine Gr.setCell ?_ _ _ _ (gr_size ?_)))
  by_cases h5 : m.depth < 1
  · have hz : m.right = 42 := by
      unfold PImg.right
      rw [if_neg (by unfold countsB; simp only [Bool.and_eq_true, decide_eq_true_eq]; omega)]
    rw [hz]
    clear hz hr hm0
    go_enter Tryz.func19, Tryz.ntmps19
    go_wp2_with fail
    go_ret
    refine ⟨rfl, ?_⟩
    (with_reducible repeat (first | exact Gr.refl _ | refine Gr.alloc ?_ _ | refine Gr.grow ?_ _ | refine Gr.drew ?_ | refine Gr.setCell ?_ _ _ _ (gr_size ?_)))
  by_cases h6 : 16 < m.depth
  · have hz : m.right = 42 := by
      unfold PImg.right
      rw [if_neg (by unfold countsB; simp only [Bool.and_eq_true, decide_eq_true_eq]; omega)]
    rw [hz]
    clear hz hr hm0
    go_enter Tryz.func19, Tryz.ntmps19
    go_wp2_with fail
    go_ret
    refine ⟨rfl, ?_⟩
    (with_reducible repeat (first | exact Gr.refl _ | refine Gr.alloc ?_ _ | refine Gr.grow ?_ _ | refine Gr.drew ?_ | refine Gr.setCell ?_ _ _ _ (gr_size ?_)))
  have hz : m.right = (if regsR m.regs 0 = 0 then (if compsR m.gates.length m.comps = 0 then gatesR m.comps m.gates else compsR m.gates.length m.comps) else regsR m.regs 0) := by
    unfold PImg.right
    rw [if_pos (by unfold countsB; simp only [Bool.and_eq_true, decide_eq_true_eq]; omega)]
  replace hz := Hid.mk hz
  have l1 : m.regs.length ≤ 281474976710648 := by omega
  have l2 : m.comps.length ≤ 281474976710648 := by omega
  have l3 : m.gates.length ≤ 281474976710648 := by omega
  have hl2 := Hid.mk hr.comps.1
  have hr1 := Hid.mk hr.regs.2
  have hr2 := Hid.mk hr.comps.2
  have hr3 := Hid.mk hr.gates.2
  clear hr
  replace hm0 := Hid.mk hm0
  go_enter Tryz.func19, Tryz.ntmps19
  go_upto_region 1 with fail
  refine wp_world (fun W => At W w.heap.size #[.slice ra m.regs.length rc, .slice ca m.comps.length cc, .slice ga m.gates.length gc, .int .i64 m.depth] ∧ Gr w W) ⟨At.new w _ _, (Gr.refl w).alloc _⟩ ?_
  rintro W0 ⟨BM, G0⟩
  replace BM := Hid.mk BM
  replace G0 := Hid.mk G0
  have hm : Hid (ImgIn w.heap.size W0 ra ca ga m) := Hid.mk (hm0.out.below (gr_belowR G0.out (Nat.le_refl _)))
  have hB : Hid (w.heap.size ≤ W0.heap.size) := Hid.mk G0.out.below.size
  clear hm0
  have c0 : W0.cell? ⟨w.heap.size, 0, none⟩ = some (.slice ra m.regs.length rc) := BM.out.2.1 0
  have c1 : W0.cell? ⟨w.heap.size, 1, none⟩ = some (.slice ca m.comps.length cc) := BM.out.2.1 1
  have c2 : W0.cell? ⟨w.heap.size, 2, none⟩ = some (.slice ga m.gates.length gc) := BM.out.2.1 2
  have c3 : W0.cell? ⟨w.heap.size, 3, none⟩ = some (.int .i64 m.depth) := BM.out.2.1 3
  go_upto_region 5 with fail
  clear c0 c1 c2 c3
  have G := Hid.mk (Gr.refl W0)
  go_loopw [3, 4] (fun y x wr => ∃ (i : Nat) (fr : Int), y = .int .u64 fr ∧ x = .int .i64 i ∧ i ≤ m.regs.length ∧ Hid (regsR m.regs 0 = regsR (m.regs.drop i) fr) ∧ Hid (Gr W0 wr)) (fun _ x _ => m.regs.length - (intOf x).toNat)
  case atStart => exact ⟨0, 0, rfl, rfl, by omega, Hid.mk (by rw [List.drop_zero]), G⟩
  case round =>
    clear G
    obtain ⟨i, fr, rfl, rfl, hi, hE, G⟩ := hrel
    replace hE := hE.out
    have c0 : wr.cell? ⟨w.heap.size, 0, none⟩ = some (.slice ra m.regs.length rc) := (BM.out.gr G.out).2.1 0
    by_cases hn : i < m.regs.length
    · have hi1 : (i : Int) < (m.regs.length : Int) := by omega
      clear c0
      obtain ⟨b, off, sa, sc, hra, hb1, _, k0, k1, k2, k3, kf⟩ := hm.out.regs i hn
      subst hra
      have hrr := Hid.mk (hr1.out _ (List.getElem_mem hn))
      rw [drop_at _ _ hn, regsR_E] at hE
      generalize m.regs[i] = rr at k0 k1 k2 k3 kf hrr hE
      replace k0 := Hid.mk k0
      replace k1 := Hid.mk k1
      replace k2 := Hid.mk k2
      replace k3 := Hid.mk k3
      replace kf := Hid.mk (kf.below (gr_belowR G.out hB.out))
      have c0 : wr.cell? ⟨w.heap.size, 0, none⟩ = some (.slice (some ⟨b, off, none⟩) m.regs.length rc) := (BM.out.gr G.out).2.1 0
      have d0 := (((gr_belowR G.out hB.out).cell (p := ⟨b, off + i * 4, none⟩) hb1).trans k0.out)
      have d1 := (((gr_belowR G.out hB.out).cell (p := ⟨b, off + i * 4 + 1, none⟩) hb1).trans k1.out)
      have d2 := (((gr_belowR G.out hB.out).cell (p := ⟨b, off + i * 4 + 1 + 1, none⟩) hb1).trans k2.out)
      have d3 := (((gr_belowR G.out hB.out).cell (p := ⟨b, off + i * 4 + 1 + 1 + 1, none⟩) hb1).trans k3.out)
      have hcl := Hid.mk (refRegion_any rr sa sc fr wr (kf.out.mono (Nat.le_trans hB.out G.out.below.size)) hrr.out)
      replace hE := Hid.mk hE
      go_wp2_with fail
      refine hcl.out.mono ?_
      rintro x wq ⟨rfl, q9⟩
      clear c0 d0 d1 d2 d3 hcl kf k2 k3
      replace G := Hid.mk (G.out.trans q9)
      clear q9
      have hg := Hid.mk (regE_place (f := fr) hrr.out.1.1)
      have hb0 := hrr.out.1.1
      have hb2 := hrr.out.2.1.1
      clear hrr
      generalize regE rr fr = E at *
      by_cases h9 : E = 0
      · subst h9
        obtain ⟨p1, p2⟩ := hg.out rfl
        clear hg
        have e8 : IntKind.u64.wrap (rr.b + rr.n) = rr.b + rr.n := by rw [IntKind.wrap_u64]; omega
        replace hE := hE.out
        rw [if_pos rfl] at hE
        have c0 : wq.cell? ⟨w.heap.size, 0, none⟩ = some (.slice (some ⟨b, off, none⟩) m.regs.length rc) := (BM.out.gr G.out).2.1 0
        have d0 := (((gr_belowR G.out hB.out).cell (p := ⟨b, off + i * 4, none⟩) hb1).trans k0.out)
        have d1 := (((gr_belowR G.out hB.out).cell (p := ⟨b, off + i * 4 + 1, none⟩) hb1).trans k1.out)
        replace hE := Hid.mk hE
        clear p1 p2 hb0 hb2
        go_wp2_with fail
        go_quiet (fail)
        clear c0 d0 d1 k0 k1
        go_wp2_with fail
        exact ⟨⟨i + 1, _, rfl, by go_num, by omega, hE, Hid.mk (G.out.drewN _)⟩, by simp [intOf]; omega⟩
      · have h9b : (E == 0) = false := by simpa using h9
        clear hg hb0 hb2
        go_wp2_with fail
        go_ret
        refine ⟨retI ?_, G0.out.trans G.out⟩
        rw [hz.out, hE.out, if_neg h9, if_neg h9]
    · have hi1 : ¬ (i : Int) < (m.regs.length : Int) := by omega
      have ei : i = m.regs.length := by omega
      subst ei
      clear c0
      replace hE := Hid.mk hE
      have c0 : wr.cell? ⟨w.heap.size, 0, none⟩ = some (.slice ra m.regs.length rc) := (BM.out.gr G.out).2.1 0
      have hE1 := hE.out
      rw [List.drop_length] at hE1
      replace hE1 : Hid (regsR m.regs 0 = 0) := Hid.mk hE1
      clear hE
      go_upto_region 12 with fail
      clear c0
      have G4 := G
      clear G
      go_loopw [6] (fun x wr => ∃ i : Nat, x = .int .i64 i ∧ i ≤ m.comps.length ∧ Hid (compsR m.gates.length m.comps = compsR m.gates.length (m.comps.drop i)) ∧ Hid (Gr W0 wr)) (fun x _ => m.comps.length - (intOf x).toNat)
      case atStart => exact ⟨0, rfl, by omega, Hid.mk (by rw [List.drop_zero]), G4⟩
      case round =>
        clear G4
        obtain ⟨i, rfl, hi, hE, G⟩ := hrel
        replace hE := hE.out
        have c1 : wr.cell? ⟨w.heap.size, 1, none⟩ = some (.slice ca m.comps.length cc) := (BM.out.gr G.out).2.1 1
        by_cases hn : i < m.comps.length
        · have hi1 : (i : Int) < (m.comps.length : Int) := by omega
          clear c1
          obtain ⟨b, off, ra', rc', ka, kc', hca, hb1, _, k0, k1, kf, kl⟩ := hm.out.comps i hn
          subst hca
          have hrr := Hid.mk (hr2.out _ (List.getElem_mem hn))
          rw [drop_at _ _ hn, compsR_E] at hE
          generalize m.comps[i] = rr at k0 k1 kf kl hrr hE
          replace k0 := Hid.mk k0
          replace k1 := Hid.mk k1
          replace kf := Hid.mk kf
          replace kl := Hid.mk kl
          replace hE := Hid.mk hE
          have c1 : wr.cell? ⟨w.heap.size, 1, none⟩ = some (.slice (some ⟨b, off, none⟩) m.comps.length cc) := (BM.out.gr G.out).2.1 1
          have KS : Hid (∀ W, Gr wr W → W.cell? ⟨w.heap.size, 1, none⟩ = some (.slice (some ⟨b, off, none⟩) m.comps.length cc) ∧ W.cell? ⟨w.heap.size, 2, none⟩ = some (.slice ga m.gates.length gc) ∧ W.rangeAt b (off + i * 2) [Value.slice ra' rr.roots.length rc', .slice ka rr.code.length kc']) := Hid.mk (fun W q => ⟨(BM.out.gr (G.out.trans q)).2.1 1, (BM.out.gr (G.out.trans q)).2.1 2, range2L (((gr_belowR (G.out.trans q) hB.out).cell (p := ⟨b, off + i * 2, none⟩) hb1).trans k0.out) (((gr_belowR (G.out.trans q) hB.out).cell (p := ⟨b, off + i * 2 + 1, none⟩) hb1).trans k1.out)⟩)
          have hcl := Hid.mk (fun (W : World) (q : Gr wr W) => show Calls Tryz.prog 42 #[.agg (List.toArray [Value.slice ra' rr.roots.length rc', .slice ka rr.code.length kc']), .int .i64 m.gates.length] W _ from refComp_any rr ra' ka rc' kc' m.gates.length W ((kf.out.below (gr_belowR (G.out.trans q) hB.out)).mono (Nat.le_trans hB.out (G.out.trans q).below.size)) ((kl.out.below (gr_belowR (G.out.trans q) hB.out)).mono (Nat.le_trans hB.out (G.out.trans q).below.size)) hrr.out)
          go_upto_region 14 with fail
          have d1 : Gr wr wr.drew := (Gr.refl _).drew
          refine wp_region_held_drew (S := (fun W => W.cell? ⟨w.heap.size, 1, none⟩ = some (.slice (some ⟨b, off, none⟩) m.comps.length cc) ∧ W.cell? ⟨w.heap.size, 2, none⟩ = some (.slice ga m.gates.length gc) ∧ W.rangeAt b (off + i * 2) [Value.slice ra' rr.roots.length rc', .slice ka rr.code.length kc'])) (by kernel_rfl) (KS.out _ d1) (fun hHeld => ?_)
          refine wpAnyH_take (i := 0) (oi := { dst := some 85, op := Op.fieldAddr 26 (Operand.tmp 1) 1, type := 0, pos := "right.go:157", after := #[], guard := none }) (v := ?_) rfl (by kernel_rfl) (by kernel_rfl) (by kernel_rfl) (fun _ _ _ h => h) (Or.inl ⟨by rfl, ?_⟩) (by assumption) ?_
          rotate_left
          · intro w hSw; (try dsimp only at hSw); go_simp; first | done | with_reducible rfl
          try simp only [Act.put, List.setIfInBounds_toArray, List.set_cons_zero, List.set_cons_succ]
          refine wpAnyH_take (i := 1) (oi := { dst := some 86, op := Op.load 23 (Operand.tmp 85), type := 23, pos := "right.go:157", after := #[{ on := 0, ground := Ground.data }], guard := none }) (v := ?_) rfl (by kernel_rfl) (by kernel_rfl) (by kernel_rfl) (fun _ _ _ h => h) (Or.inl ⟨by rfl, ?_⟩) (by assumption) ?_
          rotate_left
          · intro w hSw; (try dsimp only at hSw); go_simp; first | done | with_reducible rfl
          try simp only [Act.put, List.setIfInBounds_toArray, List.set_cons_zero, List.set_cons_succ]
          refine wpAnyH_take (i := 2) (oi := { dst := some 87, op := Op.move (Operand.tmp 6), type := 3, pos := "right.go:157", after := #[], guard := none }) (v := ?_) rfl (by kernel_rfl) (by kernel_rfl) (by kernel_rfl) (fun _ _ _ h => h) (Or.inl ⟨by rfl, ?_⟩) (by assumption) ?_
          rotate_left
          · intro w hSw; (try dsimp only at hSw); go_simp; first | done | with_reducible rfl
          try simp only [Act.put, List.setIfInBounds_toArray, List.set_cons_zero, List.set_cons_succ]
          refine wpAnyH_take (i := 3) (oi := { dst := some 88, op := Op.indexAddr 23 (Operand.tmp 86) (Operand.tmp 87), type := 0, pos := "right.go:157", after := #[{ on := 1, ground := Ground.data }, { on := 2, ground := Ground.data }], guard := none }) (v := ?_) rfl (by kernel_rfl) (by kernel_rfl) (by kernel_rfl) (fun _ _ _ h => h) (Or.inl ⟨by rfl, ?_⟩) (by assumption) ?_
          rotate_left
          · intro w hSw; (try dsimp only at hSw); go_simp; first | done | with_reducible rfl
          try simp only [Act.put, List.setIfInBounds_toArray, List.set_cons_zero, List.set_cons_succ]
          refine wpAnyH_take (i := 4) (oi := { dst := some 89, op := Op.load 52 (Operand.tmp 88), type := 52, pos := "right.go:157", after := #[{ on := 3, ground := Ground.data }], guard := none }) (v := _) rfl (by kernel_rfl) (by kernel_rfl) (by kernel_rfl) (fun _ _ _ h => h) (yieldsIf_load_mid (by rfl) _ _ rfl _ _ rfl _ _ (fun _ h => h.2.2) Tryz.underlying52 rfl (by kernel_rfl)) (by assumption) ?_
          try simp only [Act.put, List.setIfInBounds_toArray, List.set_cons_zero, List.set_cons_succ]
          refine wpAnyH_take (i := 5) (oi := { dst := some 90, op := Op.fieldAddr 26 (Operand.tmp 1) 2, type := 0, pos := "right.go:157", after := #[], guard := none }) (v := ?_) rfl (by kernel_rfl) (by kernel_rfl) (by kernel_rfl) (fun _ _ _ h => h) (Or.inl ⟨by rfl, ?_⟩) (by assumption) ?_
          rotate_left
          · intro w hSw; (try dsimp only at hSw); go_simp; first | done | with_reducible rfl
          try simp only [Act.put, List.setIfInBounds_toArray, List.set_cons_zero, List.set_cons_succ]
          refine wpAnyH_take (i := 6) (oi := { dst := some 91, op := Op.load 24 (Operand.tmp 90), type := 24, pos := "right.go:157", after := #[{ on := 5, ground := Ground.data }], guard := none }) (v := ?_) rfl (by kernel_rfl) (by kernel_rfl) (by kernel_rfl) (fun _ _ _ h => h) (Or.inl ⟨by rfl, ?_⟩) (by assumption) ?_
          rotate_left
          · intro w hSw; (try dsimp only at hSw); go_simp; first | done | with_reducible rfl
          try simp only [Act.put, List.setIfInBounds_toArray, List.set_cons_zero, List.set_cons_succ]
          refine wpAnyH_take (i := 7) (oi := { dst := some 92, op := Op.call { callee := Callee.builtin Builtin.len, args := #[Operand.tmp 91], argTypes := #[24] }, type := 3, pos := "right.go:157", after := #[{ on := 6, ground := Ground.data }], guard := none }) (v := ?_) rfl (by kernel_rfl) (by kernel_rfl) (by kernel_rfl) (fun _ _ _ h => h) (Or.inl ⟨by rfl, ?_⟩) (by assumption) ?_
          rotate_left
          · intro w hSw; (try dsimp only at hSw); go_simp; first | done | with_reducible rfl
          try simp only [Act.put, List.setIfInBounds_toArray, List.set_cons_zero, List.set_cons_succ]
          refine wpAnyH_ready (rs := [8]) (by kernel_rfl) (by simp) ?_
          refine AllReadyH.cons (o := { dst := some 93, op := Op.call { callee := Callee.value (Operand.func 42), args := #[Operand.tmp 89, Operand.tmp 92], argTypes := #[52, 3] }, type := 3, pos := "right.go:157", after := #[{ on := 4, ground := Ground.data }, { on := 7, ground := Ground.data }], guard := none }) rfl (fun K hK => ?_) AllReadyH.nil
          go_simp
          go_wp2_with ((go_at_call 42; refine (hcl.out _ (by (with_reducible repeat (first | assumption | exact Gr.refl _ | refine Gr.alloc ?_ _ | refine Gr.grow ?_ _ | refine Gr.drew ?_ | refine Gr.setCell ?_ _ _ _ (gr_size ?_))))).mono ?_; rintro x wq ⟨rfl, q9⟩; have d1 : Gr wr wq := Gr.trans (by (with_reducible repeat (first | assumption | exact Gr.refl _ | refine Gr.alloc ?_ _ | refine Gr.grow ?_ _ | refine Gr.drew ?_ | refine Gr.setCell ?_ _ _ _ (gr_size ?_)))) q9; clear q9))
          refine hK.out _ _ (KS.out _ d1) (fun hHeld => ?_)
          clear hK K
          try simp only [Act.put, List.setIfInBounds_toArray, List.set_cons_zero, List.set_cons_succ]
          refine wpAnyH_take (i := 9) (oi := { dst := some 7, op := Op.assign (Operand.tmp 93), type := 3, pos := "right.go:157", after := #[{ on := 8, ground := Ground.data }, { on := 8, ground := Ground.chain }, { on := 0, ground := Ground.phase }, { on := 1, ground := Ground.phase }, { on := 2, ground := Ground.phase }, { on := 3, ground := Ground.phase }, { on := 4, ground := Ground.phase }, { on := 5, ground := Ground.phase }, { on := 6, ground := Ground.phase }, { on := 7, ground := Ground.phase }, { on := 8, ground := Ground.phase }], guard := none }) (v := ?_) rfl (by kernel_rfl) (by kernel_rfl) (by kernel_rfl) (fun _ _ _ h => h) (Or.inl ⟨by rfl, ?_⟩) (by assumption) ?_
          rotate_left
          · intro w hSw; (try dsimp only at hSw); go_simp; first | done | with_reducible rfl
          try simp only [Act.put, List.setIfInBounds_toArray, List.set_cons_zero, List.set_cons_succ]
          refine wpAnyH_done (by kernel_rfl) ?_ _
          clear hHeld KS hcl
          replace G := Hid.mk (G.out.trans d1)
          clear d1
          clear k0 k1 kf kl hrr c1
          generalize compE m.gates.length rr = E at *
          by_cases h9 : E = 0
          · subst h9
            replace hE := hE.out
            rw [if_pos rfl] at hE
            replace hE := Hid.mk hE
            go_wp2_with fail
            exact ⟨⟨i + 1, by go_num, by omega, hE, G⟩, by simp [intOf]; omega⟩
          · have h9b : (E == 0) = false := by simpa using h9
            go_wp2_with fail
            go_ret
            refine ⟨retI ?_, G0.out.trans G.out⟩
            rw [hz.out, if_pos hE1.out, hE.out, if_neg h9, if_neg h9]
        · have hi1 : ¬ (i : Int) < (m.comps.length : Int) := by omega
          have ei : i = m.comps.length := by omega
          subst ei
          clear c1
          replace hE := Hid.mk hE
          have c1 : wr.cell? ⟨w.heap.size, 1, none⟩ = some (.slice ca m.comps.length cc) := (BM.out.gr G.out).2.1 1
          have hE2 := hE.out
          rw [List.drop_length] at hE2
          replace hE2 : Hid (compsR m.gates.length m.comps = 0) := Hid.mk hE2
          clear hE
          go_upto_region 18 with fail
          clear c1
          have G5 := G
          clear G
          go_loopw [8] (fun x wr => ∃ i : Nat, x = .int .i64 i ∧ i ≤ m.gates.length ∧ Hid (gatesR m.comps m.gates = gatesR m.comps (m.gates.drop i)) ∧ Hid (Gr W0 wr)) (fun x _ => m.gates.length - (intOf x).toNat)
          case atStart => exact ⟨0, rfl, by omega, Hid.mk (by rw [List.drop_zero]), G5⟩
          case round =>
            clear G5
            obtain ⟨i, rfl, hi, hE, G⟩ := hrel
            replace hE := hE.out
            have c2 : wr.cell? ⟨w.heap.size, 2, none⟩ = some (.slice ga m.gates.length gc) := (BM.out.gr G.out).2.1 2
            by_cases hn : i < m.gates.length
            · have hi1 : (i : Int) < (m.gates.length : Int) := by omega
              clear c2
              obtain ⟨b, off, xa, xc, ya, yc, hga, hb1, _, k0, k1, k2, k3, kf, kl⟩ := hm.out.gates i hn
              subst hga
              have hrr := hr3.out _ (List.getElem_mem hn)
              rw [drop_at _ _ hn, gatesR_E] at hE
              generalize m.gates[i] = rr at k0 k1 k2 k3 kf kl hrr hE
              obtain ⟨gc', ge, ar, re⟩ := rr
              dsimp only at k0 k1 k2 k3 kf kl
              replace hrr := Hid.mk hrr
              replace k0 := Hid.mk k0
              replace k1 := Hid.mk k1
              replace k2 := Hid.mk k2
              replace k3 := Hid.mk k3
              replace kf := Hid.mk kf
              replace kl := Hid.mk kl
              replace hE := Hid.mk hE
              have c2 : wr.cell? ⟨w.heap.size, 2, none⟩ = some (.slice (some ⟨b, off, none⟩) m.gates.length gc) := (BM.out.gr G.out).2.1 2
              have KS : Hid (∀ W, Gr wr W → W.cell? ⟨w.heap.size, 2, none⟩ = some (.slice (some ⟨b, off, none⟩) m.gates.length gc) ∧ W.rangeAt w.heap.size 0 [Value.slice ra m.regs.length rc, .slice ca m.comps.length cc, .slice (some ⟨b, off, none⟩) m.gates.length gc, .int .i64 m.depth] ∧ W.rangeAt b (off + i * 4) [Value.int .i64 gc', .int .i64 ge, .slice xa ar.length xc, .slice ya re.length yc]) := Hid.mk (fun W q => ⟨(BM.out.gr (G.out.trans q)).2.1 2, (BM.out.gr (G.out.trans q)).range, range4L (((gr_belowR (G.out.trans q) hB.out).cell (p := ⟨b, off + i * 4, none⟩) hb1).trans k0.out) (((gr_belowR (G.out.trans q) hB.out).cell (p := ⟨b, off + i * 4 + 1, none⟩) hb1).trans k1.out) (((gr_belowR (G.out.trans q) hB.out).cell (p := ⟨b, off + i * 4 + 1 + 1, none⟩) hb1).trans k2.out) (((gr_belowR (G.out.trans q) hB.out).cell (p := ⟨b, off + i * 4 + 1 + 1 + 1, none⟩) hb1).trans k3.out)⟩)
              have hcl := Hid.mk (fun (W : World) (q : Gr wr W) => show Calls Tryz.prog 43 #[.agg (List.toArray [Value.int .i64 gc', .int .i64 ge, .slice xa ar.length xc, .slice ya re.length yc]), .agg (List.toArray [Value.slice ra m.regs.length rc, .slice ca m.comps.length cc, .slice (some ⟨b, off, none⟩) m.gates.length gc, .int .i64 m.depth])] W _ from refGate_any gc' ge ar re xa ya xc yc m.comps ra ca (some ⟨b, off, none⟩) m.regs.length rc cc m.gates.length gc m.depth W ((kf.out.below (gr_belowR (G.out.trans q) hB.out)).mono (Nat.le_trans hB.out (G.out.trans q).below.size)) ((kl.out.below (gr_belowR (G.out.trans q) hB.out)).mono (Nat.le_trans hB.out (G.out.trans q).below.size)) ((hm.out.comps.below (gr_belowR (G.out.trans q) hB.out)).mono (Nat.le_trans hB.out (G.out.trans q).below.size)) hrr.out.2.2.2.2.1 hrr.out.2.2.2.2.2 hrr.out.2.2.1 hrr.out.2.2.2.1 hl2.out)
              go_upto_region 20 with fail
              have d1 : Gr wr wr.drew := (Gr.refl _).drew
              refine wp_region_held_drew (S := (fun W => W.cell? ⟨w.heap.size, 2, none⟩ = some (.slice (some ⟨b, off, none⟩) m.gates.length gc) ∧ W.rangeAt w.heap.size 0 [Value.slice ra m.regs.length rc, .slice ca m.comps.length cc, .slice (some ⟨b, off, none⟩) m.gates.length gc, .int .i64 m.depth] ∧ W.rangeAt b (off + i * 4) [Value.int .i64 gc', .int .i64 ge, .slice xa ar.length xc, .slice ya re.length yc])) (by kernel_rfl) (KS.out _ d1) (fun hHeld => ?_)
              refine wpAnyH_take (i := 0) (oi := { dst := some 104, op := Op.fieldAddr 26 (Operand.tmp 1) 2, type := 0, pos := "right.go:163", after := #[], guard := none }) (v := ?_) rfl (by kernel_rfl) (by kernel_rfl) (by kernel_rfl) (fun _ _ _ h => h) (Or.inl ⟨by rfl, ?_⟩) (by assumption) ?_
              rotate_left
              · intro w hSw; (try dsimp only at hSw); go_simp; first | done | with_reducible rfl
              try simp only [Act.put, List.setIfInBounds_toArray, List.set_cons_zero, List.set_cons_succ]
              refine wpAnyH_take (i := 1) (oi := { dst := some 105, op := Op.load 24 (Operand.tmp 104), type := 24, pos := "right.go:163", after := #[{ on := 0, ground := Ground.data }], guard := none }) (v := ?_) rfl (by kernel_rfl) (by kernel_rfl) (by kernel_rfl) (fun _ _ _ h => h) (Or.inl ⟨by rfl, ?_⟩) (by assumption) ?_
              rotate_left
              · intro w hSw; (try dsimp only at hSw); go_simp; first | done | with_reducible rfl
              try simp only [Act.put, List.setIfInBounds_toArray, List.set_cons_zero, List.set_cons_succ]
              refine wpAnyH_take (i := 2) (oi := { dst := some 106, op := Op.move (Operand.tmp 8), type := 3, pos := "right.go:163", after := #[], guard := none }) (v := ?_) rfl (by kernel_rfl) (by kernel_rfl) (by kernel_rfl) (fun _ _ _ h => h) (Or.inl ⟨by rfl, ?_⟩) (by assumption) ?_
              rotate_left
              · intro w hSw; (try dsimp only at hSw); go_simp; first | done | with_reducible rfl
              try simp only [Act.put, List.setIfInBounds_toArray, List.set_cons_zero, List.set_cons_succ]
              refine wpAnyH_take (i := 3) (oi := { dst := some 107, op := Op.indexAddr 24 (Operand.tmp 105) (Operand.tmp 106), type := 0, pos := "right.go:163", after := #[{ on := 1, ground := Ground.data }, { on := 2, ground := Ground.data }], guard := none }) (v := ?_) rfl (by kernel_rfl) (by kernel_rfl) (by kernel_rfl) (fun _ _ _ h => h) (Or.inl ⟨by rfl, ?_⟩) (by assumption) ?_
              rotate_left
              · intro w hSw; (try dsimp only at hSw); go_simp; first | done | with_reducible rfl
              try simp only [Act.put, List.setIfInBounds_toArray, List.set_cons_zero, List.set_cons_succ]
              refine wpAnyH_take (i := 4) (oi := { dst := some 108, op := Op.load 55 (Operand.tmp 107), type := 55, pos := "right.go:163", after := #[{ on := 3, ground := Ground.data }], guard := none }) (v := _) rfl (by kernel_rfl) (by kernel_rfl) (by kernel_rfl) (fun _ _ _ h => h) (yieldsIf_load_mid (by rfl) _ _ rfl _ _ rfl _ _ (fun _ h => h.2.2) Tryz.underlying55 rfl (by kernel_rfl)) (by assumption) ?_
              try simp only [Act.put, List.setIfInBounds_toArray, List.set_cons_zero, List.set_cons_succ]
              refine wpAnyH_take (i := 5) (oi := { dst := some 109, op := Op.load 26 (Operand.tmp 1), type := 26, pos := "right.go:163", after := #[], guard := none }) (v := _) rfl (by kernel_rfl) (by kernel_rfl) (by kernel_rfl) (fun _ _ _ h => h) (yieldsIf_load_mid (by rfl) _ _ rfl _ _ rfl _ _ (fun _ h => h.2.1) Tryz.underlying26 rfl (by kernel_rfl)) (by assumption) ?_
              try simp only [Act.put, List.setIfInBounds_toArray, List.set_cons_zero, List.set_cons_succ]
              refine wpAnyH_ready (rs := [6]) (by kernel_rfl) (by simp) ?_
              refine AllReadyH.cons (o := { dst := some 110, op := Op.call { callee := Callee.value (Operand.func 43), args := #[Operand.tmp 108, Operand.tmp 109], argTypes := #[55, 26] }, type := 3, pos := "right.go:163", after := #[{ on := 4, ground := Ground.data }, { on := 5, ground := Ground.data }], guard := none }) rfl (fun K hK => ?_) AllReadyH.nil
              go_simp
              go_wp2_with ((go_at_call 43; refine (hcl.out _ (by (with_reducible repeat (first | assumption | exact Gr.refl _ | refine Gr.alloc ?_ _ | refine Gr.grow ?_ _ | refine Gr.drew ?_ | refine Gr.setCell ?_ _ _ _ (gr_size ?_))))).mono ?_; rintro x wq ⟨rfl, q9⟩; have d1 : Gr wr wq := Gr.trans (by (with_reducible repeat (first | assumption | exact Gr.refl _ | refine Gr.alloc ?_ _ | refine Gr.grow ?_ _ | refine Gr.drew ?_ | refine Gr.setCell ?_ _ _ _ (gr_size ?_)))) q9; clear q9))
              refine hK.out _ _ (KS.out _ d1) (fun hHeld => ?_)
              clear hK K
              try simp only [Act.put, List.setIfInBounds_toArray, List.set_cons_zero, List.set_cons_succ]
              refine wpAnyH_take (i := 7) (oi := { dst := some 9, op := Op.assign (Operand.tmp 110), type := 3, pos := "right.go:163", after := #[{ on := 6, ground := Ground.data }, { on := 6, ground := Ground.chain }, { on := 0, ground := Ground.phase }, { on := 1, ground := Ground.phase }, { on := 2, ground := Ground.phase }, { on := 3, ground := Ground.phase }, { on := 4, ground := Ground.phase }, { on := 5, ground := Ground.phase }, { on := 6, ground := Ground.phase }], guard := none }) (v := ?_) rfl (by kernel_rfl) (by kernel_rfl) (by kernel_rfl) (fun _ _ _ h => h) (Or.inl ⟨by rfl, ?_⟩) (by assumption) ?_
              rotate_left
              · intro w hSw; (try dsimp only at hSw); go_simp; first | done | with_reducible rfl
              try simp only [Act.put, List.setIfInBounds_toArray, List.set_cons_zero, List.set_cons_succ]
              refine wpAnyH_done (by kernel_rfl) ?_ _
              clear hHeld KS hcl
              replace G := Hid.mk (G.out.trans d1)
              clear d1
              clear k0 k1 k2 k3 kf kl hrr c2
              generalize gateE m.comps _ = E at *
              by_cases h9 : E = 0
              · subst h9
                replace hE := hE.out
                rw [if_pos rfl] at hE
                replace hE := Hid.mk hE
                go_wp2_with fail
                exact ⟨⟨i + 1, by go_num, by omega, hE, G⟩, by simp [intOf]; omega⟩
              · have h9b : (E == 0) = false := by simpa using h9
                go_wp2_with fail
                go_ret
                refine ⟨retI ?_, G0.out.trans G.out⟩
                rw [hz.out, if_pos hE1.out, if_pos hE2.out, hE.out, if_neg h9]
            · have hi1 : ¬ (i : Int) < (m.gates.length : Int) := by omega
              have ei : i = m.gates.length := by omega
              subst ei
              clear c2
              replace hE := Hid.mk hE
              have c2 : wr.cell? ⟨w.heap.size, 2, none⟩ = some (.slice ga m.gates.length gc) := (BM.out.gr G.out).2.1 2
              have hE3 := hE.out
              rw [List.drop_length] at hE3
              go_wp2_with fail
              go_ret
              refine ⟨retI ?_, G0.out.trans G.out⟩
              rw [hz.out, if_pos hE1.out, if_pos hE2.out, hE3]
              rfl
end Q
end Go.Proofs.YtmmakknhaacplaaGreatDoor
