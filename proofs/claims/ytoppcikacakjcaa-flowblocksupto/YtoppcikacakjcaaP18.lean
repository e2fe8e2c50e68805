import Derived.Test.YtoppcikacakjcaaP17
/-
  Stage 8, flow: what is come to is closed. No Go in sight; and an append of what came in.
-/
namespace Go.Proofs.Ytoppcikacakjcaa
namespace F
open Go.RowKit
open T

theorem clo1 {L : List Ins} {E : List Int} {e : Int} (h : e ∈ E) (ht : thB L.length e = true) : rchB L E (-1) e.toNat = true := by
  obtain ⟨q, rfl, hq⟩ := thB_elim ht
  exact rchB_iff.2 (Rch.base (by simpa using h) (by simpa using hq) (by omega))
theorem clo2 {L : List Ins} {E : List Int} {p q : Nat} (h : rchB L E (-1) p = true) (hf : folB L p q = true) : rchB L E (-1) q = true :=
  rchB_iff.2 (Rch.step (rchB_iff.1 h) hf (by omega))
theorem rch_mono {L : List Ins} {E E' : List Int} {out : Int} (hE : ∀ x ∈ E, x ∈ E') {q : Nat} (h : Rch L E out q) : Rch L E' out q := by
  induction h with
  | base h1 h2 h3 => exact Rch.base (hE _ h1) h2 h3
  | step h1 h2 h3 ih => exact Rch.step ih h2 h3
theorem clo3 {L : List Ins} {E : List Int} {x : Int} {q : Nat} (h : rchB L E (-1) q = true) : rchB L (E ++ [x]) (-1) q = true :=
  rchB_iff.2 (rch_mono (fun y hy => by simp [hy]) (rchB_iff.1 h))
theorem rch_why {L : List Ins} {E : List Int} {out : Int} {q : Nat} (h : Rch L E out q) : (q : Int) ∈ E ∨ ∃ p, p ≠ q ∧ Rch L E out p ∧ folB L p q = true := by
  induction h with
  | base h1 h2 h3 => exact .inl h1
  | @step p q h1 h2 h3 ih =>
    by_cases e : p = q
    · subst e; exact ih
    · exact .inr ⟨p, e, h1, h2⟩
/-- Why each is come to, from so many. -/
def wC (L : List Ins) (E : List Int) (r : Nat → Bool) (p q : Nat) : Bool := decide ((q : Int) ∈ E) || (List.range p).any fun p' => r p' && folB L p' q && decide (q ≠ p')
def wD (L : List Ins) (E : List Int) (r : Nat → Bool) (p : Nat) (N : List Int) (q : Nat) : Bool := wC L E r p q || (r p && decide ((q : Int) ∈ N) && decide (q ≠ p))
theorem clo4 {L : List Ins} {E : List Int} {q : Nat} (h : rchB L E (-1) q = true) : wC L E (rchB L E (-1)) L.length q = true := by
  unfold wC
  rcases rch_why (rchB_iff.1 h) with r | ⟨p, h1, h2, h3⟩
  · simp [r]
  · rw [Bool.or_eq_true]
    right
    rw [List.any_eq_true]
    refine ⟨p, List.mem_range.2 (folB_lt' h3), ?_⟩
    rw [rchB_iff.2 h2, h3]
    simp
    omega
theorem wD_all {L : List Ins} {E : List Int} {r : Nat → Bool} {p : Nat} (hp : p < L.length) (q : Nat) : wC L E r (p + 1) q = wD L E r p (nxtI L p) q := by
  have e : decide ((q : Int) ∈ nxtI L p) = folB L p q := by
    rw [Bool.eq_iff_iff, decide_eq_true_iff, mem_nxt hp]
    constructor
    · rintro ⟨q', h1, h2⟩
      have : q = q' := by omega
      rw [this]; exact h2
    · intro h; exact ⟨q, rfl, h⟩
  unfold wD
  rw [e]
  unfold wC
  rw [List.range_succ, List.any_append]
  simp [Bool.or_assoc]
theorem wD_zero {L : List Ins} {E : List Int} {r : Nat → Bool} {p : Nat} (q : Nat) : wD L E r p [] q = wC L E r p q := by simp [wD]
theorem wD_off {L : List Ins} {E : List Int} {r : Nat → Bool} {p : Nat} (h : r p = false) (N M : List Int) (q : Nat) : wD L E r p N q = wD L E r p M q := by simp [wD, h]
theorem wD_self {L : List Ins} {E : List Int} {r : Nat → Bool} {p : Nat} (N : List Int) (q : Nat) : wD L E r p (N ++ [(p : Int)]) q = wD L E r p N q := by
  unfold wD
  by_cases e : q = p
  · subst e; simp
  · have : ¬ (q : Int) = p := by omega
    simp [this]
theorem wD_put {L : List Ins} {E : List Int} {r : Nat → Bool} {p y : Nat} (h : r p = true) (hy : y ≠ p) (N : List Int) (q : Nat) : wD L E r p (N ++ [(y : Int)]) q = if q = y then true else wD L E r p N q := by
  unfold wD
  by_cases e : q = y
  · subst e; simp [h, hy]
  · have : ¬ (q : Int) = y := by omega
    simp [this, e]
theorem take_snoc (N : List Int) (k : Nat) (hk : k < N.length) : N.take (k + 1) = N.take k ++ [N[k]] := by
  rw [List.take_add_one, List.getElem?_eq_getElem hk, Option.toList_some]
theorem run_append_nilsrc (w : World) (ty : TypeId) (base : Nat) (v : Value) (L : List Int) (c : Nat) (hL : IOwn w base v L) :
    (Builtin.append_ #[23, 23] ty #[v, .slice none 0 c]).run Try.prog w = .ok v w := by
  obtain ⟨i0, hi, hz0, hz1, hz2⟩ := info_parts' (t := 3) (z := .int .i64 0) (s := 1) (b := 8) (by kernel_rfl)
  rcases hL.2 with ⟨rfl, h0⟩ | ⟨g, cap, cur, rfl, hbg, hg, hnc, hcm, hcs, htake⟩
  · simp [Builtin.append_, run_underlying Try.underlying23, sizeOf, typeInfo, hi, Builtin.lenOf, Builtin.firstCells]
  · have := run_append_room_src (P := Try.prog) w 23 23 ty 3 i0 Try.underlying23 hi g 0 L.length cap (.slice none 0 c) 0 [] (Src.ofNil w Try.underlying23 c) (by omega) (fun j hj => by simp at hj) (fun j hj => by simp at hj)
    simpa [World.setCells] using this
theorem wpList_append_came {ops : Array Oper} {rest : List Oper} {o : Oper} {a : Act} {Q : Exit → Act → World → Prop} {w : World} (hgd : o.guard = none) (s x : Operand)
    (ho : o.op = .call { callee := .builtin .append, args := #[s, x], argTypes := #[23, 23] })
    (base : Nat) (v : Value) (L M : List Int) (hs : a.eval s = v) (hL : IOwn w base v L)
    (ax : Option Addr) (c : Nat) (hx : a.eval x = .slice ax M.length c) (B : Nat) (hM : NIn B w ax M) (hlen : L.length + M.length ≤ 8000000) (hbase : base ≤ w.heap.size)
    (h : ∀ v' w', IOwn w' base v' (L ++ M) → w.grownBy w' v.ownBlock → (v'.ownBlock = v.ownBlock ∨ v'.ownBlock = some w.heap.size) → wpList Try.prog ops Q rest (a.put o.dst v') w') :
    wpList Try.prog ops Q (o :: rest) a w := by
  cases ax with
  | none =>
    have hM0 : M = [] := by
      cases M with
      | nil => rfl
      | cons k M =>
        obtain ⟨b, off, e, _⟩ := hM 0 (by simp)
        cases e
    subst hM0
    refine wpList_plain hgd fun K hK => ?_
    have hr := run_append_nilsrc w o.type base v L c hL
    unfold Oper.wp execOp
    simp only [ho, resolve, invoke, builtin, Sem.run_bind, Sem.run_pure, Result.andThen_ok, List.map_toArray, List.map_cons, List.map_nil, hs, hx, List.length_nil, hr]
    exact hK _ _ (h v w (by simpa using hL) ⟨rfl, rfl, rfl, Nat.le_refl _, fun _ _ _ => rfl⟩ (.inl rfl))
  | some ad => exact wpList_append_nums hgd s x ho base v L M hs hL ad c hx B hM hlen hbase h
end F
end Go.Proofs.Ytoppcikacakjcaa


/-
  Stage 8, flow: the document's Follows and Next.
-/
namespace Go.Proofs.Ytoppcikacakjcaa
namespace F
open Go.RowKit
open T

theorem op_cases (op : Int) : op = 20 ∨ op = 21 ∨ op = 22 ∨ op = 23 ∨ op = 24 ∨ op = 26 ∨ op = 27 ∨ op = 28 ∨ op = 32 ∨ ((op == 20) = false ∧ (op == 21) = false ∧ (op == 22) = false ∧ (op == 23) = false ∧ (op == 24) = false ∧ (op == 26) = false ∧ (op == 27) = false ∧ (op == 28) = false ∧ (op == 32) = false ∧ wayN op = 0) := by
  by_cases h : op = 20 ∨ op = 21 ∨ op = 22 ∨ op = 23 ∨ op = 24 ∨ op = 26 ∨ op = 27 ∨ op = 28 ∨ op = 32
  · rcases h with h | h | h | h | h | h | h | h | h <;> simp [h]
  · simp only [not_or] at h
    obtain ⟨h1, h2, h3, h4, h5, h6, h7, h8, h9⟩ := h
    have e0 : wayN op = 0 := by simp [wayN, *]
    simp [h1, h2, h3, h4, h5, h6, h7, h8, h9, e0]
theorem fol_val {L : List Ins} {p i : Nat} (hp : p < L.length) (hi : i < L.length) : folB L p i = wyF (wayN L[p].op) L[p].m p i := by simp [folB, hp, hi]
theorem beq_dec (a b : Int) : (a == b) = decide (a = b) := by
  by_cases h : a = b <;> simp [h]
set_option maxHeartbeats 4000000 in
theorem Follows_any (L : List Ins) (ca : Option Addr) (cc : Nat) (pc : Int) (i : Nat) (w : World) (hL : LIn w.heap.size w ca L) (hn : L.length < 2000000) (hi : i < L.length) :
    Calls Try.prog 38 #[.slice ca L.length cc, .int .i64 pc, .int .i64 i] w fun e w' => e = .returned (.bool (thB L.length pc && folB L pc.toNat i)) ∧ Below w.heap.size w w' := by
  have hT := thereD_any ca L.length cc
  have et2 : thB L.length (i : Int) = true := thB_nat.2 hi
  cases et : thB L.length pc with
  | false =>
    simp only [Bool.false_and]
    replace hL := Hid.mk hL
    replace hT := Hid.mk hT
    go_enter Try.func38, Try.ntmps38
    go_wp2_with (first | (go_at_call 43; refine (hT.out _ _).mono ?_; rintro y w1 ⟨rfl, rfl⟩; (try rw [et]); (try rw [et2])))
    go_ret
    exact ⟨rfl, Below.refl _ _⟩
  | true =>
    obtain ⟨p, rfl, hp⟩ := thB_elim et
    obtain ⟨b, off, rfl, hb0, hb, five⟩ := hL p hp
    obtain ⟨c0, c1, c2, c3, c4⟩ := five
    have hp1 : (p : Int) < L.length := by omega
    have hp2 : ¬ (L.length : Int) ≤ p := by omega
    simp only [Bool.true_and, Int.toNat_natCast]
    rw [fol_val hp hi]
    replace hL := Hid.mk hL
    replace hT := Hid.mk hT
    generalize L[p].a = i1 at *
    generalize L[p].b = i2 at *
    generalize L[p].c = i3 at *
    generalize L[p].m = im at *
    generalize hop : L[p].op = op at *
    replace hop := Hid.mk hop
    rcases op_cases op with rfl | rfl | rfl | rfl | rfl | rfl | rfl | rfl | rfl | ⟨o1, o2, o3, o4, o5, o6, o7, o8, o9, o0⟩
    · have e : wyF (wayN 20) im p i = ((i : Int) == im) := by rw [beq_dec]; rfl
      rw [e]
      go_enter Try.func38, Try.ntmps38
      go_wp2_with (first | (go_at_call 43; refine (hT.out _ _).mono ?_; rintro y w1 ⟨rfl, rfl⟩; (try rw [et]); (try rw [et2])))
      go_ret
      exact ⟨rfl, by (repeat (first | assumption | with_reducible exact Below.refl _ _ | with_reducible refine Below.alloc ?_ (by simp <;> omega) _ | with_reducible refine Below.setCell ?_ (by simp <;> omega) _ | with_reducible refine Below.drew ?_))⟩
    iterate 4
      · by_cases h1 : (i : Int) = im
        · have e : wyF 2 im p i = true := by simp [wyF, h1]
          have e' : ((i : Int) == im) = true := by simpa using h1
          first
          | rw [show wayN 21 = 2 from rfl, e]
          | rw [show wayN 22 = 2 from rfl, e]
          | rw [show wayN 23 = 2 from rfl, e]
          | rw [show wayN 24 = 2 from rfl, e]
          replace h1 := Hid.mk h1
          replace e := Hid.mk e
          go_enter Try.func38, Try.ntmps38
          go_wp2_with (first | (go_at_call 43; refine (hT.out _ _).mono ?_; rintro y w1 ⟨rfl, rfl⟩; (try rw [et]); (try rw [et2])))
          go_ret
          exact ⟨rfl, by (repeat (first | assumption | with_reducible exact Below.refl _ _ | with_reducible refine Below.alloc ?_ (by simp <;> omega) _ | with_reducible refine Below.setCell ?_ (by simp <;> omega) _ | with_reducible refine Below.drew ?_))⟩
        · have e : wyF 2 im p i = ((i : Int) == (p : Int) + 1) := by
            rw [beq_dec]
            have : (i = p + 1) = ((i : Int) = (p : Int) + 1) := by apply propext; omega
            simp [wyF, h1, this]
          have e' : ((i : Int) == im) = false := by simpa using h1
          first
          | rw [show wayN 21 = 2 from rfl, e]
          | rw [show wayN 22 = 2 from rfl, e]
          | rw [show wayN 23 = 2 from rfl, e]
          | rw [show wayN 24 = 2 from rfl, e]
          replace h1 := Hid.mk h1
          replace e := Hid.mk e
          go_enter Try.func38, Try.ntmps38
          go_wp2_with (first | (go_at_call 43; refine (hT.out _ _).mono ?_; rintro y w1 ⟨rfl, rfl⟩; (try rw [et]); (try rw [et2])))
          go_ret
          exact ⟨rfl, by (repeat (first | assumption | with_reducible exact Below.refl _ _ | with_reducible refine Below.alloc ?_ (by simp <;> omega) _ | with_reducible refine Below.setCell ?_ (by simp <;> omega) _ | with_reducible refine Below.drew ?_))⟩
    · rw [show wyF (wayN 26) im p i = true from rfl]
      go_enter Try.func38, Try.ntmps38
      go_wp2_with (first | (go_at_call 43; refine (hT.out _ _).mono ?_; rintro y w1 ⟨rfl, rfl⟩; (try rw [et]); (try rw [et2])))
      go_ret
      exact ⟨rfl, by (repeat (first | assumption | with_reducible exact Below.refl _ _ | with_reducible refine Below.alloc ?_ (by simp <;> omega) _ | with_reducible refine Below.setCell ?_ (by simp <;> omega) _ | with_reducible refine Below.drew ?_))⟩
    iterate 3
      · first
        | rw [show wyF (wayN 27) im p i = false from rfl]
        | rw [show wyF (wayN 28) im p i = false from rfl]
        | rw [show wyF (wayN 32) im p i = false from rfl]
        go_enter Try.func38, Try.ntmps38
        go_wp2_with (first | (go_at_call 43; refine (hT.out _ _).mono ?_; rintro y w1 ⟨rfl, rfl⟩; (try rw [et]); (try rw [et2])))
        go_ret
        exact ⟨rfl, by (repeat (first | assumption | with_reducible exact Below.refl _ _ | with_reducible refine Below.alloc ?_ (by simp <;> omega) _ | with_reducible refine Below.setCell ?_ (by simp <;> omega) _ | with_reducible refine Below.drew ?_))⟩
    · have e : wyF (wayN op) im p i = ((i : Int) == (p : Int) + 1) := by
        rw [o0, beq_dec]
        have : (i = p + 1) = ((i : Int) = (p : Int) + 1) := by apply propext; omega
        simp [wyF, this]
      rw [e]
      replace o0 := Hid.mk o0
      replace e := Hid.mk e
      go_enter Try.func38, Try.ntmps38
      go_wp2_with (first | (go_at_call 43; refine (hT.out _ _).mono ?_; rintro y w1 ⟨rfl, rfl⟩; (try rw [et]); (try rw [et2])))
      go_ret
      exact ⟨rfl, by (repeat (first | assumption | with_reducible exact Below.refl _ _ | with_reducible refine Below.alloc ?_ (by simp <;> omega) _ | with_reducible refine Below.setCell ?_ (by simp <;> omega) _ | with_reducible refine Below.drew ?_))⟩
/-- Of so many, those that come behind. -/
def nxK (L : List Ins) (pc : Int) (i : Nat) : List Int := ((List.range i).filter fun q => thB L.length pc && folB L pc.toNat q).map fun q : Nat => (q : Int)
theorem nxK_all (L : List Ins) (pc : Int) : nxK L pc L.length = nxtI L pc := by
  unfold nxK nxtI
  cases e : thB L.length pc <;> simp
theorem nxK_step (L : List Ins) (pc : Int) (i : Nat) : nxK L pc (i + 1) = nxK L pc i ++ if (thB L.length pc && folB L pc.toNat i) = true then [(i : Int)] else [] := by
  unfold nxK
  rw [List.range_succ, List.filter_append, List.map_append]
  congr 1
  by_cases h : (thB L.length pc && folB L pc.toNat i) = true
  · rw [if_pos h]; simp only [List.filter_cons, h, if_true, List.filter_nil, List.map_cons, List.map_nil]
  · rw [if_neg h]; simp only [List.filter_cons, h, if_false, List.filter_nil, List.map_nil, Bool.false_eq_true]
theorem nxK_len (L : List Ins) (pc : Int) (i : Nat) : (nxK L pc i).length ≤ i := by
  unfold nxK
  rw [List.length_map]
  have := List.length_filter_le (fun q => thB L.length pc && folB L pc.toNat q) (List.range i)
  simpa using this
set_option maxHeartbeats 2000000 in
theorem NextD_any (L : List Ins) (ca : Option Addr) (cc : Nat) (pc : Int) (w : World) (hL : LIn w.heap.size w ca L) (hn : L.length < 2000000) :
    Calls Try.prog 24 #[.slice ca L.length cc, .int .i64 pc] w fun e w' => ∃ v, e = .returned v ∧ IOwn w' w.heap.size v (nxtI L pc) ∧ Below w.heap.size w w' := by
  have hF := fun i W (q : Below w.heap.size w W) (hi : i < L.length) => Follows_any L ca cc pc i W ((hL.below q).mono q.size) hn hi
  rw [← nxK_all]
  replace hL := Hid.mk hL
  replace hF := Hid.mk hF
  go_enter Try.func24, Try.ntmps24
  go_wp2_with fail
  go_loopw [5, 6] (fun v x wr => ∃ i : Nat, x = .int .i64 i ∧ i ≤ L.length ∧ Hid (IOwn wr w.heap.size v (nxK L pc i) ∧ Below w.heap.size w wr)) (fun _ x _ => L.length - (intOf x).toNat)
  case atStart => exact ⟨0, rfl, by omega, Hid.mk ⟨⟨rfl, .inl ⟨rfl, rfl⟩⟩, Below.refl _ _⟩⟩
  case round =>
    obtain ⟨i, rfl, hi, ⟨h1, h2⟩⟩ := hrel
    by_cases hlt : i < L.length
    · have hi1 : (i : Int) < L.length := by omega
      have hs := nxK_step L pc i
      have hl := nxK_len L pc i
      have hFi := hF.out i wr h2 hlt
      obtain ⟨va, vc, rfl⟩ := own_slice h1
      generalize nxK L pc i = l at *
      cases ef : (thB L.length pc && folB L pc.toNat i) with
      | false =>
        rw [ef] at hs hFi
        simp only [Bool.false_eq_true, if_false, List.append_nil] at hs
        have hnew := fun W (q : Below wr.heap.size wr W) => Hid.mk (show IOwn W w.heap.size (.slice va l.length vc) (nxK L pc (i + 1)) ∧ Below w.heap.size w W from ⟨by rw [hs]; exact own_below h1 q, h2.trans (q.mono h2.size)⟩)
        replace hFi := Hid.mk hFi
        replace hnew := Hid.mk hnew
        replace h1 := Hid.mk h1
        replace h2 := Hid.mk h2
        replace hs := Hid.mk hs
        replace ef := Hid.mk ef
        go_wp2_with (first | (go_at_call 38; refine hFi.out.mono ?_; rintro y w1 ⟨rfl, q1⟩; have hnw := hnew.out w1 q1; replace q1 := Hid.mk q1))
        go_roundw
        all_goals first | exact ⟨i + 1, by simp, by omega, hnw⟩ | (simp only [intOf]; omega)
      | true =>
        rw [ef] at hs hFi
        simp only [if_true] at hs
        have hrow := fun W (q : Below wr.heap.size wr W) => (show IOwn W w.heap.size (.slice va l.length vc) l from own_below h1 q)
        have hlk := fun k r => (World.ownsRow.lt h1 k r).1
        have hsz := h2.size
        replace hFi := Hid.mk hFi
        replace hrow := Hid.mk hrow
        replace h1 := Hid.mk h1
        replace h2 := Hid.mk h2
        replace hs := Hid.mk hs
        replace ef := Hid.mk ef
        replace hlk := Hid.mk hlk
        go_wp2_with (first | (go_at_call 38; refine hFi.out.mono ?_; rintro y w1 ⟨rfl, q1⟩; have hz1 := q1.size; replace q1 := Hid.mk q1) | (at_builtin; refine wpList_append_int rfl (.tmp 19) (.tmp 21) rfl w.heap.size (.slice va l.length vc) l (i : Int) rfl (hrow.out _ (q1.out.alloc hz1 _)) w1.heap.size rfl (At.new _ _ _) (by omega) (by simp; omega) ?_))
        intro g cap w2 g1 g2 g3 g4
        have hnw : Hid (IOwn w2 w.heap.size (.slice (some ⟨g, 0, none⟩) (l.length + 1) cap) (nxK L pc (i + 1)) ∧ Below w.heap.size w w2) := Hid.mk ⟨by rw [hs.out]; exact g1, (h2.out.trans ((q1.out.alloc hz1 _).mono hsz)).trans (Below.of_grown g2 (by simp; omega) (fun k r => hlk.out k r))⟩
        replace g1 := Hid.mk g1
        replace g2 := Hid.mk g2
        go_wp2_with fail
        go_roundw
        all_goals first | exact ⟨i + 1, by simp, by omega, hnw⟩ | (simp only [intOf]; omega)
    · have hi1 : ¬ (i : Int) < L.length := by omega
      have ei : i = L.length := by omega
      subst ei
      replace h1 := Hid.mk h1
      replace h2 := Hid.mk h2
      go_wp2_with fail
      go_ret
      exact ⟨_, rfl, h1.out, h2.out⟩
end F
end Go.Proofs.Ytoppcikacakjcaa
