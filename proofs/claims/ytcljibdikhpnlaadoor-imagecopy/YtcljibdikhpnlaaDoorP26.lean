import Derived.Test.YtcljibdikhpnlaaDoorP11
/-
  Programs that are lent: rows with room behind them. No Go in sight.
-/
namespace Go.Proofs.YtcljibdikhpnlaaDoor
namespace Q
open Go.RowKit

def slot77 : PSlot := { t := typeZ, c := 77 }
def rg77 : RgV := ⟨77, 0, [], nilS⟩
def RgOkL (kk : Nat) (W : World) (r : PReg) (v : RgV) : Prop := v.b = r.b ∧ v.n = r.n ∧ v.d = r.data ∧ LsOk PSlot.vals slot77 kk W r.slots v.s
def CpOkL (kk : Nat) (W : World) (c : PComp) (v : CpV) : Prop := LsOk PRoot.vals rootZ kk W c.roots v.r ∧ LsOk Ins.vals instZ kk W c.code v.k
def GtOkL (kk : Nat) (W : World) (g : PGate) (v : GtV) : Prop := v.c = g.c ∧ v.e = g.e ∧ LsOk PTyp.vals typeZ kk W g.args v.x ∧ LsOk PTyp.vals typeZ kk W g.res v.y
def isV {β : Type} (M : β) (_ : World) (v : β) : Prop := v = M
theorem rgL_keep {kk : Nat} {W W' : World} (k : Kt kk W W') (a : PReg) (b : RgV) (h : RgOkL kk W a b) : RgOkL kk W' a b := ⟨h.1, h.2.1, h.2.2.1, h.2.2.2.keep k⟩
theorem cpL_keep {kk : Nat} {W W' : World} (k : Kt kk W W') (a : PComp) (b : CpV) (h : CpOkL kk W a b) : CpOkL kk W' a b := ⟨h.1.keep k, h.2.keep k⟩
theorem gtL_keep {kk : Nat} {W W' : World} (k : Kt kk W W') (a : PGate) (b : GtV) (h : GtOkL kk W a b) : GtOkL kk W' a b := ⟨h.1, h.2.1, h.2.2.1.keep k, h.2.2.2.keep k⟩
/-- A row of which 'i' are done: the others are as they were made. -/
structure Row3 {α β : Type} (ok : World → α → β → Prop) (mk : World → β → Prop) (Z : β) (n : Nat) (W : World) (L : List α) (l : List β) (i : Nat) : Prop where
  len : l.length = n
  done : Done ok mk W L l i
  rest : ∀ j, i ≤ j → j < n → l[j]? = some Z
theorem Row3.zero {α β : Type} (ok : World → α → β → Prop) (mk : World → β → Prop) (Z : β) (n : Nat) (W : World) (L : List α) : Row3 ok mk Z n W L (List.replicate n Z) 0 :=
  ⟨by simp, Done.zero _ _ _ _ _, fun j _ h => by simp [h]⟩
theorem Row3.keep {α β : Type} {ok : World → α → β → Prop} {mk : World → β → Prop} {Z : β} {n : Nat} {W W' : World} {L : List α} {l : List β} {i : Nat} (h : Row3 ok mk Z n W L l i) (k1 : ∀ a b, ok W a b → ok W' a b) (k2 : ∀ b, mk W b → mk W' b) : Row3 ok mk Z n W' L l i :=
  ⟨h.len, h.done.keep k1 k2, h.rest⟩
theorem Row3.next {α β : Type} {ok : World → α → β → Prop} {mk : World → β → Prop} {Z : β} {n : Nat} {W : World} {L : List α} {l : List β} {i : Nat} (h : Row3 ok mk Z n W L l i) (hi : i < n) (v : β) (h1 : ∀ q : i < L.length, ok W L[i] v) (h2 : L.length ≤ i → mk W v) : Row3 ok mk Z n W L (l.set i v) (i + 1) :=
  ⟨by rw [List.length_set]; exact h.len, h.done.next (by rw [h.len]; exact hi) v h1 h2, fun j hj hn => by rw [List.getElem?_set_ne (by omega)]; exact h.rest j (by omega) hn⟩
theorem Row3.over {α β : Type} {ok : World → α → β → Prop} {Z : β} {n : Nat} {W : World} {L : List α} {l : List β} (h : Row3 ok (isV Z) Z n W L l L.length) : Done ok (isV Z) W L l n := fun j hj => by
  by_cases q : j < L.length
  · exact h.done j q
  · exact ⟨fun r => absurd r q, fun r => ⟨Z, h.rest j r hj, rfl⟩⟩
/-- One cell of a row's element. -/
theorem flat_set {α : Type} {f : α → List Value} {k : Nat} (hf : ∀ x, (f x).length = k) : ∀ (L : List α) (i : Nat) (hi : i < L.length) (v : α) (j : Nat) (x : Value), j < k → f v = (f L[i]).set j x → (L.set i v).flatMap f = (L.flatMap f).set (i * k + j) x
  | [], i, hi, _, _, _, _, _ => absurd hi (by simp)
  | a :: L, 0, _, v, j, x, hj, h => by
    simp only [List.getElem_cons_zero] at h
    rw [List.set_cons_zero, List.flatMap_cons, List.flatMap_cons, h, Nat.zero_mul, Nat.zero_add, List.set_append_left _ _ (by rw [hf]; exact hj)]
  | a :: L, i + 1, hi, v, j, x, hj, h => by
    simp only [List.getElem_cons_succ] at h
    rw [List.set_cons_succ, List.flatMap_cons, List.flatMap_cons, flat_set hf L i (by simpa using hi) v j x hj h, List.set_append_right _ _ (by rw [hf, Nat.succ_mul]; omega), hf, show (i + 1) * k + j - k = i * k + j by rw [Nat.succ_mul]; omega]
theorem At.setOne {α : Type} {f : α → List Value} {k : Nat} (hf : ∀ x, (f x).length = k) {w : World} {b : Nat} {L : List α} (h : At w b (rowV [] f L).toArray) (i : Nat) (hi : i < L.length) (v : α) (j : Nat) (x : Value) (hj : j < k) (hv : f v = (f L[i]).set j x) (o : Nat) (ho : o = i * k + j) : At (w.setCell ⟨b, o, none⟩ x) b (rowV [] f (L.set i v)).toArray := by
  subst ho
  have e := row_len (pre := []) hf L
  have hlt : i * k + j < L.length * k := by
    have : (i + 1) * k ≤ L.length * k := Nat.mul_le_mul_right k hi
    rw [Nat.succ_mul] at this
    omega
  have q := h.set (i * k + j) x (by rw [List.size_toArray, e]; simpa using hlt)
  rw [List.setIfInBounds_toArray] at q
  unfold rowV at q ⊢
  rw [List.nil_append, ← flat_set hf L i hi v j x hj hv] at q
  rw [List.nil_append]
  exact q
theorem elem_atL {α : Type} {f : α → List Value} {k : Nat} (hf : ∀ x, (f x).length = k) {w : World} {b : Nat} {L : List α} (h : At w b (rowV [] f L).toArray) (i : Nat) (v : α) (hv : L[i]? = some v) : w.rangeAt b (i * k) (f v) := by
  obtain ⟨hi, rfl⟩ := List.getElem?_eq_some_iff.1 hv
  exact h.elem (pre := []) hf i hi (i * k) (by simp)
/-- A list made and copied. -/
theorem made_copy {α : Type} {vals : α → List Value} {k b : Nat} {Z : α} (hk : 0 < k) (hv : ∀ x, (vals x).length = k) (h1 : ∀ x, ∀ v ∈ vals x, v.oneCell' = true) {t e : TypeId} (ty : TypeId) (ht : Tryd.prog.underlying t = some (.slice e)) (hi : (Tryd.prog.info? e).map (fun i => (i.zero, i.size, i.bytes)) = some (some (.agg (vals Z).toArray), k, b)) (hs : (Tryd.prog.info? e).map (·.size) = some k)
    (L : List α) (a : Option Addr) (c B kk : Nat) (w : World) (hL : FIn k vals B w a L) (hB : B ≤ w.heap.size) (hb : b * (L.length + 8) ≤ 281474976710656) (hn : L.length ≤ 281474976710648) (hkk : kk < w.heap.size) :
    (Instr.makeSlice t (.int .i64 ((L.length : Int) + 8)) (.int .i64 ((L.length : Int) + 8))).run Tryd.prog w = .ok (.slice (some ⟨w.heap.size, 0, none⟩) (L.length + 8) (L.length + 8)) (w.alloc (.cells (rowV [] vals (List.replicate (L.length + 8) Z)).toArray e)) ∧
    (Builtin.copy_ #[t, t] ty #[.slice (some ⟨w.heap.size, 0, none⟩) (L.length + 8) (L.length + 8), .slice a L.length c]).run Tryd.prog (w.alloc (.cells (rowV [] vals (List.replicate (L.length + 8) Z)).toArray e)) = .ok (goInt L.length) ((w.alloc (.cells (rowV [] vals (List.replicate (L.length + 8) Z)).toArray e)).setCells w.heap.size 0 (L.flatMap vals)) ∧
    LsOk vals Z kk ((w.alloc (.cells (rowV [] vals (List.replicate (L.length + 8) Z)).toArray e)).setCells w.heap.size 0 (L.flatMap vals)) L ⟨some ⟨w.heap.size, 0, none⟩, L.length, L.length + 8⟩ ∧
    Gr w ((w.alloc (.cells (rowV [] vals (List.replicate (L.length + 8) Z)).toArray e)).setCells w.heap.size 0 (L.flatMap vals)) := by
  have hm := make_k (vals := vals) (Z := Z) (t := t) (e := e) (k := k) (b := b) hk hv ht hi (L.length + 8) (by omega) hb w
  rw [show ((L.length + 8 : Nat) : Int) = (L.length : Int) + 8 by omega] at hm
  have g1 : Gr w (w.alloc (.cells (rowV [] vals (List.replicate (L.length + 8) Z)).toArray e)) := (Gr.refl w).alloc _
  have q := copy_rows (B := B) (c := c) (k := k) hk hv h1 ty ht hs (At.new w (rowV [] vals (List.replicate (L.length + 8) Z)).toArray e) (L := L) (a := a) (hL.below ⟨g1.below.os, g1.below.tape, g1.below.output, g1.below.size, fun j hj => g1.below.block j (by omega)⟩) (by simp)
  rw [List.length_replicate] at q
  refine ⟨hm, q.1, ⟨w.heap.size, rfl, hkk, ?_⟩, g1.setCells _ (Nat.le_refl _) _ _⟩
  have q2 := q.2
  rw [marked_drop] at q2
  exact q2
theorem _root_.Go.Proofs.YtcljibdikhpnlaaDoor.LIn.fin5 {B : Nat} {w : World} {a : Option Addr} {L : List Ins} (h : LIn B w a L) : FIn 5 Ins.vals B w a L := fun i hi => by
  obtain ⟨b, off, ha, h1, h2, f0, f1, f2, f3, f4⟩ := h i hi
  refine ⟨b, off, ha, h1, h2, fun j hj => ?_⟩
  match j, hj with
  | 0, _ => exact f0
  | 1, _ => exact f1
  | 2, _ => exact f2
  | 3, _ => exact f3
  | 4, _ => exact f4
/-- A program that is lent. -/
structure LeIn (kk kr kc kg : Nat) (W : World) (m : PImg) (lr : List RgV) (lc : List CpV) (lg : List GtV) : Prop where
  r : At W kr (rowV [] RgV.vals lr).toArray
  c : At W kc (rowV [] CpV.vals lc).toArray
  g : At W kg (rowV [] GtV.vals lg).toArray
  rl : lr.length = m.regs.length + 8
  cl : lc.length = m.comps.length + 8
  gl : lg.length = m.gates.length + 8
  rd : Done (RgOkL kk) (isV rg77) W m.regs lr (m.regs.length + 8)
  cd : Done (CpOkL kk) (isV cpZ) W m.comps lc (m.comps.length + 8)
  gd : Done (GtOkL kk) (isV gtZ) W m.gates lg (m.gates.length + 8)
theorem LeIn.gr {kk kr kc kg : Nat} {W W' : World} {m : PImg} {lr : List RgV} {lc : List CpV} {lg : List GtV} (h : LeIn kk kr kc kg W m lr lc lg) (q : Gr W W') : LeIn kk kr kc kg W' m lr lc lg :=
  ⟨h.r.gr q, h.c.gr q, h.g.gr q, h.rl, h.cl, h.gl, h.rd.keep (rgL_keep (Kt.gr q)) (fun _ h => h), h.cd.keep (cpL_keep (Kt.gr q)) (fun _ h => h), h.gd.keep (gtL_keep (Kt.gr q)) (fun _ h => h)⟩
theorem marked_atL {α : Type} {M : α} {L : List α} (i : Nat) (hi : i < L.length) : (marked M L)[i]? = some L[i] := by
  unfold marked
  rw [List.getElem?_append_left hi, List.getElem?_eq_getElem hi]
theorem marked_pastL {α : Type} {M : α} {L : List α} (i : Nat) (hi : L.length ≤ i) (h8 : i < L.length + 8) : (marked M L)[i]? = some M := by
  unfold marked
  rw [List.getElem?_append_right hi, List.getElem?_replicate, if_pos (by omega)]
theorem LsOk.finL {α : Type} {vals : α → List Value} {M : α} {kk k : Nat} {W : World} {L : List α} {s : Sl} (hk : ∀ x, (vals x).length = k) (h : LsOk vals M kk W L s) : FIn k vals W.heap.size W s.a L := by
  obtain ⟨g, rfl, _, hA⟩ := h
  intro i hi
  refine ⟨g, 0, rfl, hA.1, hA.1, fun j hj => ?_⟩
  have hj' : j < (vals L[i]).length := by rw [hk]; exact hj
  rw [List.getElem?_eq_getElem hj', Nat.zero_add]
  exact elem_atL hk hA i _ (marked_atL i hi) j _ (List.getElem?_eq_getElem hj')
theorem LsOk.linL {M : Ins} {kk : Nat} {W : World} {L : List Ins} {s : Sl} (h : LsOk Ins.vals M kk W L s) : LIn W.heap.size W s.a L := by
  obtain ⟨g, rfl, _, hA⟩ := h
  intro i hi
  have q := elem_atL (k := 5) (fun _ => rfl) hA i _ (marked_atL i hi)
  refine ⟨g, 0, rfl, hA.1, hA.1, ?_⟩
  rw [Nat.zero_add]
  exact ⟨q 0 _ rfl, q 1 _ rfl, q 2 _ rfl, q 3 _ rfl, q 4 _ rfl⟩
theorem LsOk.lenL {α : Type} {vals : α → List Value} {M : α} {kk : Nat} {W : World} {L : List α} {s : Sl} (h : LsOk vals M kk W L s) : s.l = L.length := by
  obtain ⟨g, rfl, _, _⟩ := h
  rfl
theorem LeIn.img {kk kr kc kg : Nat} {W : World} {m : PImg} {lr : List RgV} {lc : List CpV} {lg : List GtV} (h : LeIn kk kr kc kg W m lr lc lg) : ImgIn W.heap.size W (some ⟨kr, 0, none⟩) (some ⟨kc, 0, none⟩) (some ⟨kg, 0, none⟩) m := by
  refine ⟨fun i hi => ?_, fun i hi => ?_, fun i hi => ?_⟩
  · obtain ⟨v, hv, e1, e2, e3, hok⟩ := (h.rd i (by omega)).1 hi
    have q := elem_atL rg_len h.r i _ hv
    refine ⟨kr, 0, v.s.a, v.s.c, rfl, h.r.1, h.r.1, ?_, ?_, ?_, ?_, hok.finL slt_len⟩
    · rw [Nat.zero_add, ← e1]; exact q 0 _ rfl
    · rw [Nat.zero_add, ← e2]; exact q 1 _ rfl
    · rw [Nat.zero_add, ← e3]; exact q 2 _ rfl
    · rw [Nat.zero_add, ← hok.lenL]; exact q 3 _ rfl
  · obtain ⟨v, hv, hok⟩ := (h.cd i (by omega)).1 hi
    have q := elem_atL cp_len h.c i _ hv
    refine ⟨kc, 0, v.r.a, v.r.c, v.k.a, v.k.c, rfl, h.c.1, h.c.1, ?_, ?_, hok.1.finL rot_len, hok.2.linL⟩
    · rw [Nat.zero_add, ← hok.1.lenL]; exact q 0 _ rfl
    · rw [Nat.zero_add, ← hok.2.lenL]; exact q 1 _ rfl
  · obtain ⟨v, hv, e1, e2, h1, h2⟩ := (h.gd i (by omega)).1 hi
    have q := elem_atL gt_len h.g i _ hv
    refine ⟨kg, 0, v.x.a, v.x.c, v.y.a, v.y.c, rfl, h.g.1, h.g.1, ?_, ?_, ?_, ?_, h1.finL typ_len, h2.finL typ_len⟩
    · rw [Nat.zero_add, ← e1]; exact q 0 _ rfl
    · rw [Nat.zero_add, ← e2]; exact q 1 _ rfl
    · rw [Nat.zero_add, ← h1.lenL]; exact q 2 _ rfl
    · rw [Nat.zero_add, ← h2.lenL]; exact q 3 _ rfl
end Q
end Go.Proofs.YtcljibdikhpnlaaDoor


/-
  Programs that are lent: mark, types.
-/
namespace Go.Proofs.YtcljibdikhpnlaaDoor
namespace Q
open Go.RowKit

/-- Slots while they are marked. -/
structure M77 (w0 : World) (g : Nat) (pre : List PSlot) (n i : Nat) (l : List PSlot) (W : World) : Prop where
  gr : Gr w0 W
  at_ : At W g (rowV [] PSlot.vals (pre ++ l)).toArray
  len : l.length = n
  done : ∀ j, j < i → l[j]? = some slot77
  rest : ∀ j, i ≤ j → j < n → l[j]? = some slotZ
theorem M77.all {w0 : World} {g : Nat} {pre : List PSlot} {n : Nat} {l : List PSlot} {W : World} (h : M77 w0 g pre n n l W) : l = List.replicate n slot77 := by
  apply List.ext_getElem?
  intro j
  by_cases q : j < n
  · rw [h.done j q]; simp [q]
  · rw [List.getElem?_eq_none (by rw [h.len]; omega), List.getElem?_eq_none (by simp; omega)]
theorem M77.cell {w0 : World} {g : Nat} {pre : List PSlot} {n i : Nat} {l : List PSlot} {W : World} (h : M77 w0 g pre n i l W) (hi : i < n) (o : Nat) (ho : o = pre.length * 8) : W.cell? ⟨g, o + i * 8 + 7, none⟩ = some (.int .u64 0) := by
  have e := h.rest i (Nat.le_refl _) hi
  have q : (pre ++ l)[pre.length + i]? = some slotZ := by rw [List.getElem?_append_right (by omega), Nat.add_sub_cancel_left]; exact e
  have r := elem_atL slt_len h.at_ _ _ q 7 _ rfl
  rw [show o + i * 8 + 7 = (pre.length + i) * 8 + 7 by omega]
  exact r
theorem M77.next {w0 : World} {g : Nat} {pre : List PSlot} {n i : Nat} {l : List PSlot} {W : World} (h : M77 w0 g pre n i l W) (hi : i < n) (hg : w0.heap.size ≤ g) (o : Nat) (ho : o = pre.length * 8) : M77 w0 g pre n (i + 1) (l.set i slot77) (W.setCell ⟨g, o + i * 8 + 7, none⟩ (.int .u64 77)) := by
  have e := h.rest i (Nat.le_refl _) hi
  have hl : i < l.length := by rw [h.len]; exact hi
  have q : (pre ++ l)[pre.length + i]? = some slotZ := by rw [List.getElem?_append_right (by omega), Nat.add_sub_cancel_left]; exact e
  obtain ⟨hlt, q'⟩ := List.getElem?_eq_some_iff.1 q
  refine ⟨h.gr.setCell g _ _ hg, ?_, by rw [List.length_set]; exact h.len, fun j hj => ?_, fun j hj hn => ?_⟩
  · have r := At.setOne slt_len h.at_ (pre.length + i) hlt slot77 7 (.int .u64 77) (by omega) (by rw [q']; rfl) (o + i * 8 + 7) (by omega)
    rw [List.set_append_right _ _ (by omega), Nat.add_sub_cancel_left] at r
    exact r
  · by_cases e2 : j = i
    · subst e2; simp [hl]
    · rw [List.getElem?_set_ne (fun r => e2 r.symm)]; exact h.done j (by omega)
  · rw [List.getElem?_set_ne (by omega)]; exact h.rest j (by omega) hn
set_option maxRecDepth 100000 in
set_option maxHeartbeats 2000000 in
theorem mark_any (w0 w : World) (g : Nat) (pre : List PSlot) (n o cap : Nat) (ho : o = pre.length * 8) (hA : At w g (rowV [] PSlot.vals (pre ++ List.replicate n slotZ)).toArray) (hG : Gr w0 w) (hg : w0.heap.size ≤ g) (hn : n ≤ 281474976710656) : Calls Tryd.prog 16 #[.slice (some ⟨g, o, none⟩) n cap] w fun x w' => x = .returned (.tuple #[]) ∧ Gr w0 w' ∧ At w' g (rowV [] PSlot.vals (pre ++ List.replicate n slot77)).toArray := by
  have hI0 := Hid.mk (show M77 w0 g pre n 0 (List.replicate n slotZ) w from ⟨hG, hA, by simp, fun j hj => by omega, fun j _ hj => by simp [hj]⟩)
  clear hA hG
  replace ho := Hid.mk ho
  go_enter Tryd.func16, Tryd.ntmps16
  go_upto_region 1 with fail
  go_loopw [2] (fun x wr => ∃ (i : Nat) (l : List PSlot), x = .int .i64 i ∧ i ≤ n ∧ Hid (M77 w0 g pre n i l wr)) (fun x _ => n - (intOf x).toNat)
  case atStart => exact ⟨0, _, rfl, by omega, hI0⟩
  case round =>
    clear hI0
    obtain ⟨i, l, rfl, hi, hI⟩ := hrel
    by_cases hlt : i < n
    · have hi1 : (i : Int) < (n : Int) := by omega
      have c1 := hI.out.cell hlt o ho.out
      have f1 : wr.frozen? ⟨g, o + i * 8 + 7, none⟩ = false := hI.out.at_.2.2 _
      have hN := Hid.mk (hI.out.next hlt hg o ho.out)
      clear hI
      go_wp2_with fail
      exact ⟨⟨i + 1, _, by go_num, by omega, hN⟩, by simp [intOf]; omega⟩
    · have hi1 : ¬ (i : Int) < (n : Int) := by omega
      have ei : i = n := by omega
      subst ei
      have e := hI.out.all
      subst e
      go_wp2_with fail
      simp [bodyPost, results, Tryd.results16, go_sem]
      exact ⟨hI.out.gr, hI.out.at_⟩
set_option maxRecDepth 100000 in
set_option maxHeartbeats 2000000 in
theorem types_any (L : List PTyp) (a : Option Addr) (c B kk : Nat) (w : World) (hL : FIn 7 PTyp.vals B w a L) (hb : 56 * (L.length + 8) ≤ 281474976710656) (hB : B ≤ w.heap.size) (hk : kk < w.heap.size) : Calls Tryd.prog 17 #[.slice a L.length c] w fun x w' => ∃ s : Sl, x = .returned (.slice s.a s.l s.c) ∧ LsOk PTyp.vals typeZ kk w' L s ∧ Gr w w' := by
  obtain ⟨hm, hc, hl, hG⟩ := made_copy (b := 56) (Z := typeZ) (by omega) typ_len typ_one 3 Tryd.underlying53 (by kernel_rfl) (by kernel_rfl) L a c B kk w hL hB hb (by omega) hk
  have hle : (L.length : Int) ≤ (L.length : Int) + 8 := by omega
  have hl1 : L.length ≤ 281474976710648 := by omega
  have hw8 : wrap64 ((L.length : Int) + 8) = (L.length : Int) + 8 := by unfold wrap64; omega
  clear hL hb hB hk
  replace hl := Hid.mk hl
  replace hG := Hid.mk hG
  generalize World.setCells _ _ _ _ = W5 at *
  generalize w.alloc _ = W4 at *
  go_enter Tryd.func17, Tryd.ntmps17
  go_wp2_with fail
  go_ret
  exact ⟨⟨some ⟨w.heap.size, 0, none⟩, L.length, L.length + 8⟩, rfl, hl.out, hG.out⟩
end Q
end Go.Proofs.YtcljibdikhpnlaaDoor
