import Derived.Test.YtoppcikacakjcaaP26
/-
  Stage 8, flow: the lists that came out so far, each in blocks of its own; lent code written over.
-/
namespace Go.Proofs.Ytoppcikacakjcaa
namespace F
open Go.RowKit
open T

theorem row_lower {w : World} {b b' e size n : Nat} {v : Value} {xs : List Value} (h : w.ownsRow b e size v n xs) (hb : b' ≤ b) : w.ownsRow b' e size v n xs := by
  refine ⟨h.1, ?_⟩
  rcases h.2 with h2 | ⟨g, cap, cur, hv, hbg, rest⟩
  · exact .inl h2
  · exact .inr ⟨g, cap, cur, hv, by omega, rest⟩
/-- A fresh box, lent code, a list of lists. -/
structure Al (w : World) (bB gl : Nat) (L : List Ins) (V : Value) (vs : List Value) (c : Nat → Int) (W : World) : Prop where
  be : Below w.heap.size w W
  box : At W bB #[.int .i64 0, .slice none 0 0, .slice none 0 0]
  cB : c bB = -3
  loB : w.heap.size ≤ bB
  cl : At W gl (insA (L ++ mkI8))
  cG : c gl = -5
  loG : w.heap.size ≤ gl
  row : W.ownsRow w.heap.size 23 1 V vs.length vs
  cV : Cl c V 0
  ls : ∀ j (h : j < vs.length), Ls W c vs[j] ((j : Int) + 1) 0
  hc : ∀ k, c k ≠ -1 ∧ c k ≠ -2
  pos : ∀ k, 0 < c k → w.heap.size ≤ k
section
variable {w : World} {bB gl : Nat} {L : List Ins} {V : Value} {vs : List Value} {c : Nat → Int} {W : World}
theorem Al.below {W1 : World} (h : Al w bB gl L V vs c W) (hb : Below W.heap.size W W1) : Al w bB gl L V vs c W1 :=
  ⟨h.be.trans (hb.mono h.be.size), at_below h.box hb h.box.1, h.cB, h.loB, at_below h.cl hb h.cl.1, h.cG, h.loG, own_below h.row hb, h.cV, fun j hj => (h.ls j hj).below hb, h.hc, h.pos⟩
theorem Al.new {W1 : World} {v : Value} {l : List Int} (h : Al w bB gl L V vs c W) (hb : Below W.heap.size W W1) (hv : IOwn W1 W.heap.size v l) (hl : l.length ≤ 1900000) :
    ∃ c', Al w bB gl L V vs c' W1 ∧ Ls W1 c' v ((vs.length : Int) + 1) 0 := by
  rcases hv.2 with ⟨rfl, h0⟩ | ⟨g, cap, cur, rfl, hg, rest⟩
  · exact ⟨c, h.below hb, l, row_lower hv (Nat.zero_le _), hl, (fun g q => by cases q), fun q hq => by omega⟩
  · have hs : Stp (-7) W W1 c (updC c g ((vs.length : Int) + 1)) := ⟨Kp.of_below hb, fun k hk => updC_ne (by omega)⟩
    obtain ⟨b1, b2⟩ := hs.at h.box h.cB (by omega)
    obtain ⟨d1, d2⟩ := hs.at h.cl h.cG (by omega)
    obtain ⟨e1, e2⟩ := hs.own h.row h.cV (by omega)
    refine ⟨_, ⟨h.be.trans (hb.mono h.be.size), b1, b2, h.loB, d1, d2, h.loG, e1, e2, fun j hj => (h.ls j hj).stp hs (by omega), fun k => ?_, fun k q => ?_⟩, l, row_lower hv (Nat.zero_le _), hl, cl_some updC_eq, fun q hq => by omega⟩
    · by_cases e : k = g
      · subst e
        rw [updC_eq]
        omega
      · rw [updC_ne e]
        exact h.hc k
    · by_cases e : k = g
      · subst e
        exact Nat.le_trans h.be.size hg
      · rw [updC_ne e] at q
        exact h.pos k q
theorem Al.app {W1 : World} {v : Value} {g cap : Nat} (h : Al w bB gl L V vs c W) (hv : Ls W c v ((vs.length : Int) + 1) 0) (h1 : W1.ownsRow w.heap.size 23 1 (.slice (some ⟨g, 0, none⟩) (vs.length + 1) cap) (vs.length + 1) (vs ++ [v])) (h2 : W.grownBy W1 V.ownBlock) (h3 : V.ownBlock = some g ∨ g = W.heap.size) :
    ∃ c', Al w bB gl L (.slice (some ⟨g, 0, none⟩) (vs.length + 1) cap) (vs ++ [v]) c' W1 := by
  have hk : Kp (fun k => c k = 0) W W1 := ⟨h2.os, h2.tape, h2.output, h2.size, fun k hk hn => h2.block k hk (fun e => hn (h.cV k e.symm))⟩
  have hex : ∃ c', Stp 0 W W1 c c' ∧ c' g = 0 ∧ (∀ k, c' k ≠ -1 ∧ c' k ≠ -2) ∧ ∀ k, 0 < c' k → w.heap.size ≤ k := by
    rcases h3 with h3 | h3
    · exact ⟨c, ⟨hk, fun _ _ => rfl⟩, h.cV g h3, h.hc, h.pos⟩
    · refine ⟨updC c g 0, ⟨hk, fun k hk => updC_ne (by omega)⟩, updC_eq, fun k => ?_, fun k q => ?_⟩
      · by_cases e : k = g
        · subst e; rw [updC_eq]; omega
        · rw [updC_ne e]; exact h.hc k
      · by_cases e : k = g
        · subst e; rw [updC_eq] at q; omega
        · rw [updC_ne e] at q; exact h.pos k q
  obtain ⟨c', hs, hg, hc', hp'⟩ := hex
  obtain ⟨b1, b2⟩ := hs.at h.box h.cB (by omega)
  obtain ⟨d1, d2⟩ := hs.at h.cl h.cG (by omega)
  refine ⟨c', ⟨h.be.trans (Below.of_grown h2 h.be.size (fun k r => (World.ownsRow.lt h.row k r).1)), b1, b2, h.loB, d1, d2, h.loG, ?_, cl_some hg, fun j hj => ?_, hc', hp'⟩⟩
  · rw [List.length_append]
    exact h1
  · by_cases e : j < vs.length
    · rw [List.getElem_append_left e]
      exact (h.ls j e).stp hs (by omega)
    · have ej : j = vs.length := by simp at hj; omega
      subst ej
      simp only [List.getElem_append_right (Nat.le_refl _), Nat.sub_self, List.getElem_cons_zero]
      exact hv.stp hs (by omega)
theorem Al.sh (h : Al w bB gl L V vs c W) : Sh W bB V vs c (fun _ => 0) W := ⟨h.box, row_lower h.row (Nat.zero_le _), h.ls, Kp.refl _ _⟩
/-- Behind ownAll: the code that is lent, and the book. -/
structure Fc (w : World) (gl : Nat) (M : List Ins) (W : World) : Prop where
  be : Below w.heap.size w W
  cl : At W gl (insA (M ++ mkI8))
theorem Al.owned {W1 : World} {N : Nat} (h : Al w bB gl L V vs c W) (ho : Ow W bB N c W1) : Fc w gl L W1 ∧ ∃ v1 v2 T c', Bok W1 bB N v1 v2 T c' ∧ T.length = 3 * N := by
  obtain ⟨v1, v2, T, c', h1, h2, h3, _⟩ := ho
  refine ⟨⟨h.be.trans (h3.below h.be.size (fun k q => ?_)), at_kp h.cl h3 (fun q => ?_)⟩, v1, v2, T, c', h1, h2⟩
  · rcases q with rfl | q
    · exact h.loB
    · exact h.pos k q
  · rcases q with q | q
    · have := h.cB; have := h.cG; rw [q] at this; omega
    · have := h.cG; omega
theorem Fc.below {M : List Ins} {W1 : World} (h : Fc w gl M W) (hb : Below W.heap.size W W1) : Fc w gl M W1 := ⟨h.be.trans (hb.mono h.be.size), at_below h.cl hb h.cl.1⟩
theorem Bok.below {n : Int} {v1 v2 : Value} {T : List (Value × Int)} {W1 : World} (h : Bok W bB n v1 v2 T c) (hb : Below W.heap.size W W1) : Bok W1 bB n v1 v2 T c :=
  ⟨at_below h.box hb h.box.1, own_below h.row1 hb, own_below h.row2 hb, h.c1, h.c2, fun t ht => by
    obtain ⟨r1, r2, r3⟩ := h.rd t ht
    by_cases e : t.2 = -7
    · omega
    · exact ⟨r1, r2, r3.stp (Stp.of_below (m := -7) hb) e⟩⟩
theorem Fc.turn {M M' : List Ins} (h : Fc w gl M W) (hl : M'.length = M.length) (hlo : w.heap.size ≤ gl) : Fc w gl M' (W.setCells gl 0 (flat M')) := by
  have hk : Kp (fun k => k = gl) W (W.setCells gl 0 (flat M')) := kp_setCells (fun k => k = gl) gl rfl _ 0 W
  have hsz := insA_size (M ++ mkI8)
  refine ⟨h.be.trans (hk.below h.be.size (fun k r => by omega)), ?_⟩
  have := at_cells h.cl (flat M') (by rw [flat_length, hsz, hl]; simp; omega)
  have e2 : (flat M' ++ (insA (M ++ mkI8)).toList.drop (flat M').length).toArray = insA (M' ++ mkI8) := by
    unfold insA
    rw [flat_app, List.toList_toArray, flat_app]
    have e3 : (flat M').length = (flat M).length := by rw [flat_length, flat_length, hl]
    rw [e3, List.drop_left]
  rw [e2] at this
  exact this
end
theorem copy_turn {w : World} {g : Nat} {l M : List Ins} {va : Option Addr} {vc : Nat} (ty : TypeId) (h : At w g (insA l)) (hM : LIn w.heap.size w va M) (hnil : NilOk va M.length vc) (hl : M.length ≤ l.length) (c : Nat) :
    (Builtin.copy_ #[22, 22] ty #[.slice (some ⟨g, 0, none⟩) M.length c, .slice va M.length vc]).run Try.prog w = .ok (goInt M.length) (w.setCells g 0 (flat M)) := by
  obtain ⟨i0, hi0, hz0, hz1, hz2⟩ := info_parts' (t := 49) (z := .agg #[.int .u8 0, .int .i64 0, .int .i64 0, .int .i64 0, .int .i64 0]) (s := 5) (b := 40) (by kernel_rfl)
  cases va with
  | none =>
    obtain ⟨h0, rfl⟩ := hnil rfl
    have e0 : M = [] := List.length_eq_zero_iff.1 h0
    subst e0
    exact run_copy_nil (P := Try.prog) w 22 22 ty 49 ⟨g, 0, none⟩ 0 c Try.underlying22 (by rw [hi0]; rfl)
  | some ad =>
    have hmin : Nat.min M.length M.length = M.length := Nat.min_self _
    have hsz := insA_size l
    have := run_copy_k (P := Try.prog) w 22 22 ty 49 5 g 0 M.length c ad M.length vc (flat M) Try.underlying22 (by rw [hi0]; simp [hz1]) (by rw [hmin]; exact flat_length M) (fun j v hj => ?_) (fun j hj => ?_) (fun j hj => h.2.2 _) (fun v hv => ?_)
    · rw [hmin] at this
      exact this
    · have hjl : j < M.length * 5 := by have := (List.getElem?_eq_some_iff.1 hj).1; rwa [flat_length] at this
      have hq : j / 5 < M.length := by omega
      have hm : j % 5 < 5 := Nat.mod_lt _ (by omega)
      obtain ⟨b, off, e, _, _, hc⟩ := hM (j / 5) hq
      cases e
      have hg := flat_get M (j / 5) (j % 5) hq hm
      rw [show j / 5 * 5 + j % 5 = j by omega, hj] at hg
      rw [addr_add]
      obtain ⟨c0, c1, c2, c3, c4⟩ := hc
      have hm2 : j % 5 = 0 ∨ j % 5 = 1 ∨ j % 5 = 2 ∨ j % 5 = 3 ∨ j % 5 = 4 := by omega
      rcases hm2 with r | r | r | r | r <;> rw [r] at hg
      · rw [show off + j = off + j / 5 * 5 by omega, c0]; exact hg.symm
      · rw [show off + j = off + j / 5 * 5 + 1 by omega, c1]; exact hg.symm
      · rw [show off + j = off + j / 5 * 5 + 1 + 1 by omega, c2]; exact hg.symm
      · rw [show off + j = off + j / 5 * 5 + 1 + 1 + 1 by omega, c3]; exact hg.symm
      · rw [show off + j = off + j / 5 * 5 + 1 + 1 + 1 + 1 by omega, c4]; exact hg.symm
    · rw [flat_length] at hj
      rw [Nat.zero_add, h.2.1, Array.getElem?_eq_getElem (by omega)]
      rfl
    · obtain ⟨y, _, hy⟩ := List.mem_flatMap.1 hv
      simp only [Ins.vals, List.mem_cons, List.not_mem_nil, or_false] at hy
      rcases hy with rfl | rfl | rfl | rfl | rfl <;> rfl
end F
end Go.Proofs.Ytoppcikacakjcaa


/-
  Stage 8, flow: where a row begins, by the document's words. No Go in sight.
-/
namespace Go.Proofs.Ytoppcikacakjcaa
namespace F
open Go.RowKit
open T

theorem adS_elim {s : Nat → Bool} {x : Int} {q : Nat} (h : adS s x q = true) : s q = true ∨ (q : Int) = x := by simpa [adS] using h
theorem fs3_elim {i : Ins} {s : Nat → Bool} {k q : Nat} (h : fs3 k i s q = true) : s q = true ∨ wayN i.op = 3 ∨ (tgtB (wayN i.op) = true ∧ (q : Int) = i.m) ∨ (wayN i.op ≠ 0 ∧ q = k + 1) := by
  have g1 : fs1 i s q = true → s q = true ∨ wayN i.op = 3 := fun h => by
    unfold fs1 at h
    split at h
    · rename_i r; exact .inr r
    · exact .inl h
  have g2 : fs2 i s q = true → s q = true ∨ wayN i.op = 3 ∨ (tgtB (wayN i.op) = true ∧ (q : Int) = i.m) := fun h => by
    unfold fs2 at h
    split at h
    · rename_i r
      rcases adS_elim h with e | e
      · rcases g1 e with e | e
        · exact .inl e
        · exact .inr (.inl e)
      · exact .inr (.inr ⟨r, e⟩)
    · rcases g1 h with e | e
      · exact .inl e
      · exact .inr (.inl e)
  have up : (s q = true ∨ wayN i.op = 3 ∨ (tgtB (wayN i.op) = true ∧ (q : Int) = i.m)) → s q = true ∨ wayN i.op = 3 ∨ (tgtB (wayN i.op) = true ∧ (q : Int) = i.m) ∨ (wayN i.op ≠ 0 ∧ q = k + 1) := fun h => by
    rcases h with e | e | e
    · exact .inl e
    · exact .inr (.inl e)
    · exact .inr (.inr (.inl e))
  unfold fs3 at h
  split at h
  · exact up (g2 h)
  · rename_i r
    rcases adS_elim h with e | e
    · exact up (g2 e)
    · exact .inr (.inr (.inr ⟨r, by omega⟩))
theorem fsC_elim {L : List Ins} {s : Nat → Bool} {q : Nat} : ∀ j, j ≤ L.length → fsC L s j q = true → s q = true ∨ ∃ p, ∃ h : p < L.length, wayN L[p].op = 3 ∨ (tgtB (wayN L[p].op) = true ∧ (q : Int) = L[p].m) ∨ (wayN L[p].op ≠ 0 ∧ q = p + 1)
  | 0, _, h => .inl h
  | j + 1, hj, h => by
    rw [fsC_step L s j (by omega)] at h
    rcases fs3_elim h with e | e
    · exact fsC_elim j (by omega) e
    · exact .inr ⟨j, by omega, e⟩
theorem fsE_elim {E : List Int} {q : Nat} (h : fsE E E.length q = true) : q = 0 ∨ (q : Int) ∈ E := by
  unfold fsE at h
  rw [List.take_length] at h
  have key : ∀ (E : List Int) (s : Nat → Bool), E.foldl adS s q = true → s q = true ∨ (q : Int) ∈ E := by
    intro E
    induction E with
    | nil => intro s h; exact .inl h
    | cons x E ih =>
      intro s h
      rcases ih _ h with r | r
      · rcases adS_elim r with t | t
        · exact .inl t
        · exact .inr (List.mem_cons.2 (.inl t))
      · exact .inr (List.mem_cons.2 (.inr r))
  rcases key E _ h with r | r
  · rcases adS_elim r with t | t
    · cases t
    · exact .inl (by omega)
  · exact .inr r
/-- The document's words: none of the reasons is there. -/
theorem fir_false {L : List Ins} {E : List Int} {q : Nat} (hq : q < L.length) (h0 : q ≠ 0) (h1 : (q : Int) ∉ E) (h2 : ∀ h : q - 1 < L.length, wayN L[q - 1].op = 0) (h3 : ∀ p, p < L.length → folB L p q = true → p + 1 = q) : firF L E q = false := by
  rw [Bool.eq_false_iff]
  intro h
  rcases fsC_elim _ (Nat.le_refl _) h with e | ⟨p, hp, e⟩
  · rcases fsE_elim e with r | r
    · exact h0 r
    · exact h1 r
  · have h2' : p + 1 = q → wayN L[p].op = 0 := fun r => by
      have := h2 (by omega)
      have e2 : q - 1 = p := by omega
      simp only [e2] at this
      exact this
    have hf : folB L p q = wyF (wayN L[p].op) L[p].m p q := fol_val hp hq
    rcases e with e | ⟨e1, e2⟩ | ⟨e1, e2⟩
    · have hy := h3 p hp (by rw [hf, e]; rfl)
      rw [h2' hy] at e; cases e
    · have hy : folB L p q = true := by
        rw [hf]
        have hw : wayN L[p].op = 1 ∨ wayN L[p].op = 2 := by simpa [tgtB] using e1
        rcases hw with r | r <;> rw [r] <;> simp [wyF, e2]
      have := h2' (h3 p hp hy)
      rw [this] at e1
      cases e1
    · exact e1 (h2' e2.symm)
theorem fir_fol {L : List Ins} {E : List Int} {p q : Nat} (h : folB L p q = true) (hne : p + 1 ≠ q) : firF L E q = true := by
  cases e : firF L E q with
  | true => rfl
  | false => exact absurd (inner_fol h e).symm hne
theorem fir_prev {L : List Ins} {E : List Int} {q : Nat} (h0 : q ≠ 0) (h : q - 1 < L.length) (hw : wayN L[q - 1].op ≠ 0) : firF L E q = true := by
  have := fir_next (E := E) h hw
  rwa [show q - 1 + 1 = q by omega] at this
end F
end Go.Proofs.Ytoppcikacakjcaa
